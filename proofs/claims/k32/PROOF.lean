import PyProof.Rows.All
import Wide.All
import OpenK.AllK
import Wide.FinOn
import HandS.ForMost
import HandS.IsInst
import HandS.Wide
import HandS.Walk
import HandS.Flow
import HandS.Conv
import HandS.Zip
import HandS.NoneIn
import HandS.More
import HandS.DictComp
import HandS.Star
import HandS.Strs
import HandS.Evl
import PyProof.ReprRoads
import HandS.RaiseMore
import HandS.SetFor
import HandS.FStrTup
import HandS.Style
import HandS.SortKw
import KE.DataMinMax
import PySem.Challenge.RW_treethaw_k32_helpers_counted
set_option Elab.async false
set_option linter.all false
namespace KB
/-! ### ascending lists -/
def ins (a : Int) : List Int → List Int
  | [] => [a]
  | b :: l => if a < b then a :: b :: l else if a = b then b :: l else b :: ins a l
def asc (l : List Int) : List Int := l.foldr ins []
theorem mem_ins {a k : Int} : ∀ {l : List Int}, k ∈ ins a l ↔ k = a ∨ k ∈ l
  | [] => by simp [ins]
  | b :: l => by
    unfold ins
    split
    · simp
    · split
      · rename_i h; subst h; simp
      · simp only [List.mem_cons, mem_ins]
        constructor
        · rintro (h | h | h) <;> simp [h]
        · rintro (h | h | h) <;> simp [h]
theorem ins_asc {a : Int} : ∀ {l : List Int}, l.Pairwise (· < ·) → (ins a l).Pairwise (· < ·)
  | [], _ => by simp [ins]
  | b :: l, h => by
    rw [List.pairwise_cons] at h
    unfold ins
    split
    · rename_i z
      refine List.pairwise_cons.mpr ⟨fun x m => ?_, List.pairwise_cons.mpr h⟩
      rcases List.mem_cons.mp m with m | m
      · rw [m]; exact z
      · exact Int.lt_trans z (h.1 x m)
    · split
      · exact List.pairwise_cons.mpr h
      · rename_i z1 z2
        refine List.pairwise_cons.mpr ⟨fun x m => ?_, ins_asc h.2⟩
        rcases mem_ins.mp m with m | m
        · rw [m]; omega
        · exact h.1 x m
theorem mem_asc {k : Int} : ∀ {l : List Int}, k ∈ asc l ↔ k ∈ l
  | [] => by simp [asc]
  | a :: l => by
    show k ∈ ins a (asc l) ↔ _
    rw [mem_ins, mem_asc, List.mem_cons]
theorem asc_asc : ∀ (l : List Int), (asc l).Pairwise (· < ·)
  | [] => by simp [asc]
  | a :: l => ins_asc (asc_asc l)
theorem len_ins (a : Int) : ∀ (l : List Int), (ins a l).length ≤ l.length + 1
  | [] => by simp [ins]
  | b :: l => by
    unfold ins
    split
    · simp
    · split
      · simp
      · have := len_ins a l
        simp only [List.length_cons]
        omega
theorem len_asc : ∀ (l : List Int), (asc l).length ≤ l.length
  | [] => by simp [asc]
  | a :: l => by
    have := len_asc l
    have := len_ins a (asc l)
    show (ins a (asc l)).length ≤ _
    simp only [List.length_cons]
    omega
theorem asc_uniq {a b : List Int} (ha : a.Pairwise (· < ·)) (hb : b.Pairwise (· < ·)) (h : ∀ k, k ∈ a ↔ k ∈ b) : a = b := by
  have na : a.Nodup := ha.imp fun h => Int.ne_of_lt h
  have nb : b.Nodup := hb.imp fun h => Int.ne_of_lt h
  have p : a.Perm b := by
    rw [List.perm_iff_count]
    intro k
    rw [na.count, nb.count]
    simp only [h]
  exact p.eq_of_pairwise (le := fun x y => x ≤ y) (fun x y _ _ h1 h2 => Int.le_antisymm h1 h2) (ha.imp fun h => Int.le_of_lt h) (hb.imp fun h => Int.le_of_lt h)
theorem asc_eq {a l : List Int} (ha : a.Pairwise (· < ·)) (h : ∀ k, k ∈ a ↔ k ∈ l) : a = asc l := asc_uniq ha (asc_asc l) fun k => (h k).trans mem_asc.symm
theorem asc_congr {l m : List Int} (h : ∀ k, k ∈ l ↔ k ∈ m) : asc l = asc m := asc_eq (asc_asc l) fun k => mem_asc.trans (h k)
/-! ### families -/
structure Rw where
  n : Int
  up : Int
  s : Int
  g : Int
  ad : Bool
  w : Nat
abbrev Fam := List Rw
def keys (M : Fam) : List Int := M.map (·.n)
def look (M : Fam) (n : Int) : Option Rw := M.find? fun r => decide (r.n = n)
def up (M : Fam) (n : Int) : Int := ((look M n).map (·.up)).getD 1
def ses (M : Fam) (n : Int) : Int := ((look M n).map (·.s)).getD 1
def grp (M : Fam) (n : Int) : Int := ((look M n).map (·.g)).getD 1
def ado (M : Fam) (n : Int) : Bool := ((look M n).map (·.ad)).getD true
def end? (M : Fam) (n : Int) : Bool := ((look M n).map fun r => decide (r.w = 1)).getD false
structure WF (M : Fam) : Prop where
  asc : (keys M).Pairwise (· < ·)
  low : ∀ r ∈ M, 2 ≤ r.n
  par : ∀ r ∈ M, r.up = 1 ∨ r.up ∈ keys M
  root : ∃ root ∈ keys M, ∀ n ∈ keys M, up M n = 1 ↔ n = root
  rk : ∃ rk : Int → Nat, (∀ r ∈ M, rk r.n < 60) ∧ ∀ r ∈ M, r.up ≠ 1 → rk r.up < rk r.n
  few : M.length ≤ 20
theorem look_of {M : Fam} (h : (keys M).Pairwise (· < ·)) {r : Rw} (m : r ∈ M) : look M r.n = some r := by
  induction M with
  | nil => cases m
  | cons x M ih =>
    have h' := List.pairwise_cons.mp h
    unfold look
    rw [List.find?_cons]
    rcases List.mem_cons.mp m with m | m
    · rw [m]; simp
    · have : x.n < r.n := h'.1 r.n (List.mem_map_of_mem (f := fun r : Rw => r.n) m)
      have e : decide (x.n = r.n) = false := decide_eq_false (by omega)
      rw [e]
      exact ih h'.2 m
theorem look_mem {M : Fam} {n : Int} {r : Rw} (h : look M n = some r) : r ∈ M ∧ r.n = n :=
  ⟨List.mem_of_find?_eq_some h, of_decide_eq_true (List.find?_some (p := fun r : Rw => decide (r.n = n)) h)⟩
theorem look_some {M : Fam} {n : Int} (h : n ∈ keys M) : ∃ r, look M n = some r := by
  obtain ⟨r, m, e⟩ := List.mem_map.mp h
  cases z : look M n with
  | some r => exact ⟨r, rfl⟩
  | none => exact absurd (decide_eq_true e) (List.find?_eq_none.mp z r m)
theorem look_none {M : Fam} {n : Int} (h : n ∉ keys M) : look M n = none :=
  List.find?_eq_none.mpr fun r m e => h (by rw [← of_decide_eq_true e]; exact List.mem_map_of_mem (f := fun r : Rw => r.n) m)
section
variable {M : Fam} {n : Int} {r : Rw}
theorem WF.up (W : WF M) (m : r ∈ M) : up M r.n = r.up := by unfold KB.up; rw [look_of W.asc m]; rfl
theorem WF.ses (W : WF M) (m : r ∈ M) : ses M r.n = r.s := by unfold KB.ses; rw [look_of W.asc m]; rfl
theorem WF.grp (W : WF M) (m : r ∈ M) : grp M r.n = r.g := by unfold KB.grp; rw [look_of W.asc m]; rfl
theorem WF.ado (W : WF M) (m : r ∈ M) : ado M r.n = r.ad := by unfold KB.ado; rw [look_of W.asc m]; rfl
theorem WF.row (W : WF M) (h : n ∈ keys M) : ∃ r ∈ M, r.n = n := by
  obtain ⟨r, m, e⟩ := List.mem_map.mp h
  exact ⟨r, m, e⟩
theorem WF.one (W : WF M) : (1 : Int) ∉ keys M := fun h => by
  obtain ⟨r, m, e⟩ := W.row h
  have := W.low r m
  omega
theorem WF.up_in (W : WF M) (h : n ∈ keys M) (z : KB.up M n ≠ 1) : KB.up M n ∈ keys M := by
  obtain ⟨r, m, rfl⟩ := W.row h
  rw [W.up m] at z ⊢
  exact (W.par r m).resolve_left z
theorem up1 (W : WF M) : up M 1 = 1 := by unfold up; rw [look_none W.one]; rfl
theorem ado1 (W : WF M) : ado M 1 = true := by unfold ado; rw [look_none W.one]; rfl
theorem ses1 (W : WF M) : ses M 1 = 1 := by unfold ses; rw [look_none W.one]; rfl
theorem grp1 (W : WF M) : grp M 1 = 1 := by unfold grp; rw [look_none W.one]; rfl
end
/-! ### what is above -/
def go (M : Fam) : Nat → Int → List Int
  | 0, _ => []
  | k + 1, n => up M n :: if up M n = 1 then [] else go M k (up M n)
def above (M : Fam) (n : Int) : List Int := go M 64 n
section
variable {M : Fam} {n : Int}
theorem go_more (W : WF M) {rk : Int → Nat} (h : ∀ r ∈ M, r.up ≠ 1 → rk r.up < rk r.n) : ∀ (k j : Nat) (n : Int), n ∈ keys M → rk n < k → rk n < j → go M k n = go M j n
  | 0, _, _, _, h1, _ => absurd h1 (Nat.not_lt_zero _)
  | _ + 1, 0, _, _, _, h2 => absurd h2 (Nat.not_lt_zero _)
  | k + 1, j + 1, n, m, h1, h2 => by
    show (up M n :: _) = (up M n :: _)
    split
    · rfl
    · rename_i z
      obtain ⟨r, mr, rfl⟩ := W.row m
      have e := W.up mr
      rw [e] at z
      have := h r mr z
      rw [e, go_more W h k j r.up ((W.par r mr).resolve_left z) (by omega) (by omega)]
theorem above_eq (W : WF M) (m : n ∈ keys M) : above M n = up M n :: if up M n = 1 then [] else above M (up M n) := by
  obtain ⟨rk, h1, h2⟩ := W.rk
  show go M 64 n = _
  show (up M n :: _) = _
  split
  · rfl
  · rename_i z
    have mu := W.up_in m z
    obtain ⟨r, mr, e⟩ := W.row mu
    have := h1 r mr
    rw [e] at this
    show _ = up M n :: go M 64 (up M n)
    rw [go_more W h2 63 64 _ mu (by omega) (by omega)]
/-- by what is above -/
theorem up_ind (W : WF M) {P : Int → Prop} (h0 : ∀ n ∈ keys M, up M n = 1 → P n) (h1 : ∀ n ∈ keys M, up M n ≠ 1 → P (up M n) → P n) : ∀ n ∈ keys M, P n := by
  obtain ⟨rk, r1, r2⟩ := W.rk
  have : ∀ (k : Nat) (n : Int), n ∈ keys M → rk n < k → P n := by
    intro k
    induction k with
    | zero => exact fun _ _ h => absurd h (Nat.not_lt_zero _)
    | succ k ih =>
      intro n m h
      by_cases z : up M n = 1
      · exact h0 n m z
      · obtain ⟨r, mr, rfl⟩ := W.row m
        have e := W.up mr
        refine h1 _ m z (ih _ (W.up_in m z) ?_)
        rw [e] at z ⊢
        have := r2 r mr z
        omega
  exact fun n m => this _ n m (Nat.lt_succ_self _)
theorem above_len (W : WF M) : ∀ n ∈ keys M, (above M n).length ≤ 64 := by
  intro n _
  have : ∀ (k : Nat) (n : Int), (go M k n).length ≤ k := by
    intro k
    induction k with
    | zero => exact fun _ => Nat.le_refl 0
    | succ k ih =>
      intro n
      show (up M n :: _).length ≤ _
      split
      · simp
      · have := ih (up M n)
        simp only [List.length_cons]
        omega
  exact this 64 n
def adopter (M : Fam) (n : Int) : Int := ((above M n).find? fun a => ado M a).getD 1
theorem adopter_eq (W : WF M) (m : n ∈ keys M) : adopter M n = if up M n = 1 ∨ ado M (up M n) = true then up M n else adopter M (up M n) := by
  unfold adopter
  rw [above_eq W m]
  by_cases z : up M n = 1
  · rw [if_pos z, z]
    simp [ado1 W]
  · rw [if_neg z, List.find?_cons]
    cases a : ado M (up M n) <;> simp [z]
theorem above_in (W : WF M) : ∀ n ∈ keys M, ∀ a ∈ above M n, a = 1 ∨ a ∈ keys M := by
  refine up_ind W (fun n m z a h => ?_) (fun n m z ih a h => ?_)
  · rw [above_eq W m, if_pos z] at h
    exact .inl ((List.mem_singleton.mp h).trans z)
  · rw [above_eq W m, if_neg z] at h
    rcases List.mem_cons.mp h with h | h
    · exact .inr (by rw [h]; exact W.up_in m z)
    · exact ih a h
theorem above_one (W : WF M) : ∀ n ∈ keys M, (1 : Int) ∈ above M n := by
  refine up_ind W (fun n m z => ?_) (fun n m z ih => ?_)
  · rw [above_eq W m, z]
    exact List.mem_cons_self
  · rw [above_eq W m, if_neg z]
    exact List.mem_cons_of_mem _ ih
/-- nothing is above itself -/
theorem above_rk (W : WF M) {rk : Int → Nat} (h : ∀ r ∈ M, r.up ≠ 1 → rk r.up < rk r.n) : ∀ n ∈ keys M, ∀ a ∈ above M n, a ≠ 1 → rk a < rk n := by
  refine up_ind W (fun n m z a h z1 => ?_) (fun n m z ih a h' z1 => ?_)
  · rw [above_eq W m, if_pos z] at h
    exact absurd ((List.mem_singleton.mp h).trans z) z1
  · obtain ⟨r, mr, rfl⟩ := W.row m
    have e := W.up mr
    have lt := h r mr (by rw [← e]; exact z)
    rw [above_eq W m, if_neg z] at h'
    rcases List.mem_cons.mp h' with h' | h'
    · rw [h', e]; exact lt
    · have := ih a h' z1
      rw [e] at this
      omega
theorem above_self (W : WF M) (m : n ∈ keys M) : n ∉ above M n := fun h => by
  obtain ⟨rk, _, r2⟩ := W.rk
  have z : n ≠ 1 := fun z => W.one (z ▸ m)
  exact absurd (above_rk W r2 n m n h z) (Nat.lt_irrefl _)
end
/-! ### tops -/
def topB (M : Fam) (s n : Int) : Bool := decide (ses M n = s) && (decide (up M n = 1) || !decide (ses M (up M n) = s))
def tops (M : Fam) (s : Int) : List Int := (keys M).filter (topB M s)
def sessions (M : Fam) : List Int := asc (M.map (·.s))
def groups (M : Fam) : List Int := asc (M.map (·.g))
/-- whether n bars the session s -/
def barsS (M : Fam) (s n : Int) : Bool :=
  if s ∈ keys M then
    if n = s then !(decide (ses M n = s) && decide (grp M n = s)) else decide (n ∈ tops M s) && !decide (up M n = adopter M s)
  else if n ∈ tops M s then
    if s = 1 then !decide (up M n = 1) else !decide (up M n = up M ((tops M s).headD 1)) || !ado M (up M n)
  else false
theorem mem_tops {M : Fam} {s n : Int} : n ∈ tops M s ↔ n ∈ keys M ∧ topB M s n = true := List.mem_filter
def owners (M : Fam) (g : Int) : List Int := asc ((M.filter fun r => decide (r.g = g)).map (·.s))
def splitB (M : Fam) (g : Int) : Bool :=
  decide (1 < (owners M g).length) || (decide (g ∈ keys M) && !decide (ses M g = (owners M g).headD 1))
    || ((decide (g = 1) || decide (g ∈ M.map (·.s))) && !decide (g = (owners M g).headD 1))
/-- the child of n's parent that is the leader of n's session or above it -/
def need (M : Fam) (n : Int) : Option Int :=
  if ses M n ∈ keys M ∧ ses M n ≠ n ∧ topB M (ses M n) n = true then (ses M n :: above M (ses M n)).find? fun a => !decide (a = 1) && decide (up M a = up M n) else none
def ringGo (M : Fam) : Nat → List Int → Option Int → List Int × Option Int
  | 0, row, l => (row, l)
  | _ + 1, row, none => (row, none)
  | k + 1, row, some x => if x ∈ row then (row, some x) else ringGo M k (row ++ [x]) (need M x)
def ring (M : Fam) (n : Int) : Option (List Int) :=
  let z := ringGo M 64 [n] (need M n)
  if z.2 = some n ∧ z.1.all (fun a => decide (n ≤ a)) = true then some z.1 else none
inductive Rs where
  | session (s n : Int) | group (g : Int) | ring (row : List Int)
def reasons (M : Fam) : List Rs :=
  (sessions M).flatMap (fun s => ((keys M).filter (barsS M s)).map (Rs.session s)) ++ ((groups M).filter (splitB M)).map Rs.group ++ ((keys M).filterMap (ring M)).map Rs.ring
end KB
set_option Elab.async false
set_option linter.all false
set_option maxRecDepth 100000
set_option maxHeartbeats 4000000
namespace PySem
theorem codeAny_g {M : Model} {A : Around} {c : Code} {R : Result → Shared → Prop} {s : Shared} (h : ∀ g, codeAny M { A with guards := some g } c R s) : codeAny M A c R s :=
  fun Γ p e b => h (guardsOf Γ.below) Γ p e ⟨b.1, b.2.1, b.2.2.1, fun g hg => by cases hg; rfl, b.2.2.2.2⟩
end PySem
namespace L2
open PySem PySem.Spec PyProof.Rows
theorem room_g {k : Nat} {A : Around} {g : List Code} (r : Room k A) : Room k { A with guards := some g } := ⟨r.hd, r.dp, r.un⟩
theorem env0_g {P : Program} {w : World} {K : PySem.W.Frag} {mg : Str → Option Value} {base : Heap} {A : Around} {outer : List Env} {s : Shared} {H : Hp} {g : List Code} (e : Env0 P w K mg base A outer s H) : Env0 P w K mg base { A with guards := some g } outer s H :=
  ⟨e.frames, e.mod, e.bs, e.bsz, e.funs, e.frf, e.hok, e.bare⟩
section
variable {P : Program} {w : World} {K : PySem.W.Frag} {mg : Str → Option Value} {base : Heap}
/-- a def, its body walked where the guards around it are known -/
theorem Fun.okG {x qual : Str} {st : Stmt} {f : Addr} {fd : FuncData} {N ps : List Str} {k : Nat} {sp : Sp} (F : Fun K x qual st f fd) (S : FnScope N ps (defScope st)) (len : ∀ vs H Q E, sp vs H Q E → vs.length = ps.length)
    (body : ∀ (cdv : Value) (A : Around) (outer : List Env) (s : Shared) (H : Hp) (vs : List V) (Q : VK) (E : XK), (∃ g, A.guards = some g) → Room k (A.deeper (envOfC qual (defScope st) s.heap.objs.size f cdv)) → sp vs H Q E →
      ∃ t, PSs (cxOf CX0 P w K mg base N qual (defScope st) f cdv A outer s H E).nox (defBody st) t ∧ t { nx := fun _ H' => Q .non H', rt := Q } (start N vs) H) : FnOk P w K mg base CX0 (k + 1) f fd ps sp := by
  obtain ⟨oc, od, kV, doc, pm, an, cdv, ct, osl, rfl, lk, hcd⟩ := F.ex
  refine ⟨len, fun A outer s H args us vs Q E hr e0 hb r hsp => codeAny_g fun g => ?_⟩
  have hr' := room_g (g := g) hr
  have e1 := env0_g (g := g) e0
  have at_ : (∃ g', ({ A with guards := some g } : Around).guards = some g') := ⟨g, rfl⟩
  generalize ({ A with guards := some g } : Around) = B at hr' e1 at_ ⊢
  have hl := len _ _ _ _ hsp
  have up : ∀ b o, base.get? b = some o → s.heap.get? b = some o := fun b o z => (e1.bs b o z).1
  have KX : K.In s.heap := e1.mod.kin.keeps up
  have lim : s.heap.NoLimit := e1.mod.nolimit.keeps up
  have kinds : ∀ y ∈ ps.zip us, (defScope st).names.lookup y.1 = some .local ∨ ((defScope st).names.lookup y.1 = some .cell ∧ ((cellsFrom (s.heap.objs.size + 1) (defScope st).names []).lookup y.1).isSome = true) := fun y hy => by
    rcases S.par y.1 (List.of_mem_zip hy).1 with z | z
    · exact .inl z
    · exact .inr ⟨z, PySem.W.cellsFrom_some _ _ _ (.inl z)⟩
  refine codeAny_call_function hr'.depth (KX _ _ lk) rfl S.co S.gen rfl (PySem.W.codeRec_of KX hcd) (hb _ _ _ _ ?_)
  refine wpAny_newFunctionEnv_cells S.kind kinds fun env he s1 y => ?_
  subst he
  refine ⟨lim.keeps y.toInCall.keep, codeAny_func ?_⟩
  obtain ⟨t, ht, hq⟩ := body cdv B outer s H vs Q E at_ (hr'.deeper _) hsp
  have I : Inv (cxOf CX0 P w K mg base N qual (defScope st) f cdv B outer s H E) [] (start N vs) H s1 := inv_start S hr'.hd e1 hl r y
  refine wpAny_mono (ht.nox.run [] s1 (start N vs) H _ I hq) (fun fl s' z => ?_) fun _ _ z => z
  have fin : ∀ {σ' : St} {H' : Hp} {v : V} {u : Value}, Inv (cxOf CX0 P w K mg base N qual (defScope st) f cdv B outer s H E) [] σ' H' s' → RelV v u → Q v H' → CE outer P w H s Q u s' :=
    fun J rv q => ⟨_, _, J.os, J.bare, J.base, J.hok, rv, q⟩
  match fl, z with
  | .ret u, ⟨v, σ', H', J, rv, q⟩ => exact fin J rv q
  | .next, ⟨σ', H', J, q⟩ => exact fin (v := V.non) (u := Value.none) J rfl q
  | .brk, ⟨_, _, _, q⟩ => exact q.elim
  | .cont, ⟨_, _, _, q⟩ => exact q.elim
end
end L2

namespace L2
open PySem PySem.Spec PyProof.Rows
/-- a def's promise where nothing is being shown around it -/
structure FnG (P : Program) (w : World) (K : PySem.W.Frag) (mg : Str → Option Value) (base : Heap) (k : Nat) (f : Addr) (fd : FuncData) (ps : List Str) (sp : Sp) : Prop where
  len : ∀ vs H Q E, sp vs H Q E → vs.length = ps.length
  go : ∀ (A : Around) (outer : List Env) (s : Shared) (H : Hp) (args : Args) (us : List Value) (vs : List V) (Q : VK) (E : XK), A.guards = some [] → Room k A → Env0 P w K mg base A outer s H → BindsTo s fd args (ps.zip us) → Vals vs us → sp vs H Q E →
    codeAny (model P w) A (.call (.ref f) args) (CR CX0 outer P w H s Q E) s
theorem deeper_g {A : Around} {e : Env} (h : A.guards = some []) : (A.deeper e).guards = some [] := by
  first | exact h | (simp [Around.deeper, h]) | (unfold Around.deeper; simp [Around.under, h])
section
variable {P : Program} {w : World} {K : PySem.W.Frag} {mg : Str → Option Value} {base : Heap}
theorem Fun.okN {x qual : Str} {st : Stmt} {f : Addr} {fd : FuncData} {N ps : List Str} {k : Nat} {sp : Sp} (F : Fun K x qual st f fd) (S : FnScope N ps (defScope st)) (len : ∀ vs H Q E, sp vs H Q E → vs.length = ps.length)
    (body : ∀ (cdv : Value) (A : Around) (outer : List Env) (s : Shared) (H : Hp) (vs : List V) (Q : VK) (E : XK), (A.deeper (envOfC qual (defScope st) s.heap.objs.size f cdv)).guards = some [] → Room k (A.deeper (envOfC qual (defScope st) s.heap.objs.size f cdv)) → sp vs H Q E →
      ∃ t, PSs (cxOf CX0 P w K mg base N qual (defScope st) f cdv A outer s H E).nox (defBody st) t ∧ t { nx := fun _ H' => Q .non H', rt := Q } (start N vs) H) : FnG P w K mg base (k + 1) f fd ps sp := by
  obtain ⟨oc, od, kV, doc, pm, an, cdv, ct, osl, rfl, lk, hcd⟩ := F.ex
  refine ⟨len, fun A outer s H args us vs Q E hg hr e1 hb r hsp => ?_⟩
  have hl := len _ _ _ _ hsp
  have up : ∀ b o, base.get? b = some o → s.heap.get? b = some o := fun b o z => (e1.bs b o z).1
  have KX : K.In s.heap := e1.mod.kin.keeps up
  have lim : s.heap.NoLimit := e1.mod.nolimit.keeps up
  have kinds : ∀ y ∈ ps.zip us, (defScope st).names.lookup y.1 = some .local ∨ ((defScope st).names.lookup y.1 = some .cell ∧ ((cellsFrom (s.heap.objs.size + 1) (defScope st).names []).lookup y.1).isSome = true) := fun y hy => by
    rcases S.par y.1 (List.of_mem_zip hy).1 with z | z
    · exact .inl z
    · exact .inr ⟨z, PySem.W.cellsFrom_some _ _ _ (.inl z)⟩
  refine codeAny_call_function hr.depth (KX _ _ lk) rfl S.co S.gen rfl (PySem.W.codeRec_of KX hcd) (hb _ _ _ _ ?_)
  refine wpAny_newFunctionEnv_cells S.kind kinds fun env he s1 y => ?_
  subst he
  refine ⟨lim.keeps y.toInCall.keep, codeAny_func ?_⟩
  obtain ⟨t, ht, hq⟩ := body cdv A outer s H vs Q E (deeper_g hg) (hr.deeper _) hsp
  have I : Inv (cxOf CX0 P w K mg base N qual (defScope st) f cdv A outer s H E) [] (start N vs) H s1 := inv_start S hr.hd e1 hl r y
  refine wpAny_mono (ht.nox.run [] s1 (start N vs) H _ I hq) (fun fl s' z => ?_) fun _ _ z => z
  have fin : ∀ {σ' : St} {H' : Hp} {v : V} {u : Value}, Inv (cxOf CX0 P w K mg base N qual (defScope st) f cdv A outer s H E) [] σ' H' s' → RelV v u → Q v H' → CE outer P w H s Q u s' :=
    fun J rv q => ⟨_, _, J.os, J.bare, J.base, J.hok, rv, q⟩
  match fl, z with
  | .ret u, ⟨v, σ', H', J, rv, q⟩ => exact fin J rv q
  | .next, ⟨σ', H', J, q⟩ => exact fin (v := V.non) (u := Value.none) J rfl q
  | .brk, ⟨_, _, _, q⟩ => exact q.elim
  | .cont, ⟨_, _, _, q⟩ => exact q.elim
end
section
variable {X : Cx} {k : Nat} {f : Addr} {fd : FuncData} {ps : List Str} {sp : Sp} {x : Str} {p pos : Pos} {e : Expr} {es : List Expr} {t : TA}
theorem pe_callN (F : FnG X.prog X.w X.K X.mg X.base k f fd ps sp) (hN : X.A.guards = some []) (hr : Room k X.A) (hg : Gl X x) (hm : X.mg x = some (.ref f)) (hk : PySem.W.keepIn X.K (.ref f) = true) (hb : Binds X.K fd ps []) (ha : PA X (e :: es) t)
    (nd : (x == ("__debug__" : Str)) = false := by decide) (he : starEach (e :: es) X.env = (false, eval e X.env) :: starEach es X.env := by rfl) (np : (backTo pos (starEach es X.env)).any (·.1) = false := by rfl) :
    PE X (.Call (.Name x p) (e :: es) [] pos) (tCall sp [] E0 t) := by
  refine ⟨fun pins s σ H Q I h => wpAny_Call_Name_kw (ld_glob I hg hm ?_ nd)⟩
  refine PySem.W.callWith_K (h₀ := X.base) I.ok.mod.kin hk (thn (ha.run pos pins s σ H _ I h) fun us s1 hu => ?_) he np
  obtain ⟨vs, H1, I1, r1, q⟩ := hu
  refine ⟨I1.kIn, ?_⟩
  rw [List.append_nil] at q
  have hl : (us ++ []).length = ps.length := by
    rw [List.append_nil, ← r1.length]
    exact F.len _ _ _ _ q
  have bnd := hb s1 us I1.kIn hl
  rw [List.append_nil] at bnd
  refine wpAny_call (codeAny_mono (F.go X.A X.stack s1 H1 ⟨us, []⟩ us vs Q E0 hN hr I1.env0 bnd r1 q) fun r s' z => ?_)
  match r, z with
  | .error _, z => exact z.elim
  | .ok (.ret u), z => exact I1.after z
  | .ok .next, z => exact z.elim
  | .ok .brk, z => exact z.elim
  | .ok .cont, z => exact z.elim
end
end L2

namespace L2
open PySem PySem.Spec PyProof.Rows
theorem law_callN {P : Program} {w : World} {K : PySem.W.Frag} {mg mb : Str → Option Value} {k : Nat} {fa a : Addr} {fd : FuncData} {x : Str} {sp : Sp} {z : Shared} {vs : List Value} {ns : List Int}
    (KX : K.In z.heap) (h1 : z.heap.Ns mainGlobals mg) (h2 : z.heap.Ns builtinsNs mb) (h3 : ∀ x : Str, x ≠ "__name__" → mb x = bootBuiltins x) (h4 : z.heap.NoLimit) (h5 : z.gens = #[])
    (ha : z.heap.get? a = some { cls := .type "list", data := .seq vs.toArray }) (hi : IntsAre vs ns) (hl : ns.length ≤ sizeLine) (hr : Room k callerA)
    (F : ∀ base : Heap, K.In base → base.Ns mainGlobals mg → FnG P w K mg base k fa fd [x] sp) (bnd : ∀ (s : Shared) (u : Value), BindsTo s fd ⟨[u], []⟩ [(x, u)])
    (hsp : ∀ H : Hp, Only H → SqL K H a (ns.map V.int) → sp [.ref a] H (fun v _ => v = .bl true) fun _ _ _ => False) :
    codeAny (model P w) callerA (.call (.ref fa) ⟨[.ref a], []⟩) (fun r s' => r = .ok (.ret (.bool true)) ∧ OldK z.heap s'.heap ∧ s'.os = z.os ∧ AllBare s'.gens) z := by
  have rv := vals_ints hi
  have lv := hi.length
  have main : ∀ H : Hp, Only H → SqL K H a (ns.map V.int) → HOk P w H z.heap → (∀ b, H b ≠ none → b = a) → (H a ≠ none → K.lookup a = none) →
      codeAny (model P w) callerA (.call (.ref fa) ⟨[.ref a], []⟩) (fun r s' => r = .ok (.ret (.bool true)) ∧ OldK z.heap s'.heap ∧ s'.os = z.os ∧ AllBare s'.gens) z := by
    intro H only hS hok alone apart
    have stay : ∀ {b : Addr} {o : Obj}, z.heap.get? b = some o → H b = none → (hidT z.heap H).get? b = some o := fun e n => hidT_get e n
    have untracked : ∀ {b : Addr} {o : Obj} {es : Array DictEntry} {ep : Nat}, z.heap.get? b = some o → o.data = .dict es ep → H b = none := fun {b o es ep} e d => by
      by_cases q : H b = none
      · exact q
      · obtain rfl := alone b q
        rw [ha] at e
        cases e
        cases (show Data.seq vs.toArray _ = Data.dict es ep from d)
    have names : ∀ {b : Addr} {m : Str → Option Value}, z.heap.Ns b m → (hidT z.heap H).Ns b m := fun ⟨o, es, ep, e, d, r⟩ => ⟨o, es, ep, stay e (untracked e d), d, r⟩
    have KB : K.In (hidT z.heap H) := fun b o e => stay (KX b o e) (by
      by_cases q : H b = none
      · exact q
      · obtain rfl := alone b q
        rw [apart q] at e
        cases e)
    have md : Mod K mg (hidT z.heap H) := by
      obtain ⟨mc, n1, n2⟩ := h4
      exact ⟨KB, names h1, ⟨mb, names h2, h3⟩, ⟨mc, names n1, n2⟩⟩
    have e0 : Env0 P w K mg (hidT z.heap H) callerA [] z H :=
      ⟨rfl, md, fun b o e => of_hidT e, Nat.le_of_eq (hidT_size _ _), trivial, fun b hb => absurd (show b ∈ ([] : List Addr) from hb) List.not_mem_nil, hok, .of_eq h5⟩
    refine codeAny_mono ((F _ KB (names h1)).go callerA [] z H ⟨[.ref a], []⟩ [.ref a] [.ref a] _ _ rfl hr e0 (bnd z (.ref a)) (.cons rfl .nil) (hsp H only hS)) fun r s' y => ?_
    match r, y with
    | .error _, y => exact y.elim
    | .ok .next, y => exact y.elim
    | .ok .brk, y => exact y.elim
    | .ok .cont, y => exact y.elim
    | .ok (.ret u), ⟨v, H', os, bare, un, hok', rr, q⟩ =>
      obtain rfl : v = .bl true := q
      obtain rfl : u = Value.bool true := rr
      refine ⟨rfl, OldK.of_keep fun b o e => ?_, os, bare⟩
      rcases only b with n | ⟨ob, xs, n⟩
      · exact un.keep b o e n (fun q => absurd (show b ∈ ([] : List Addr) from q) List.not_mem_nil) List.not_mem_nil
      · have n2 := un.frzs b ob _ n
        obtain ⟨e1, _⟩ := hok b _ n
        obtain ⟨e2, _⟩ := hok' b _ n2
        rw [e] at e1
        cases e1
        exact e2
  cases hk : K.lookup a with
  | some o =>
    have e := KX a o hk
    rw [ha] at e
    cases e
    refine main (fun _ => none) (fun _ => .inl rfl) (.inr ⟨_, vs.toArray, _, hk, rfl, rfl, rfl, ?_, ?_⟩) (fun b u q => nomatch (show (none : Option HO) = some u from q)) (fun b q => absurd rfl q) (fun q => absurd rfl q)
    · rw [List.size_toArray, lv]
      exact hl
    · simpa using rv
  | none =>
    have here : ∀ b, (fun b => if b = a then some (HO.frz { cls := .type "list", data := .seq vs.toArray } (.lst (ns.map V.int))) else none) b ≠ none → b = a := fun b q => by
      by_cases hb : b = a
      · exact hb
      · exact absurd (if_neg hb) q
    refine main (fun b => if b = a then some (.frz { cls := .type "list", data := .seq vs.toArray } (.lst (ns.map V.int))) else none) (fun b => ?_) (.inl (.inr ⟨{ cls := .type "list", data := .seq vs.toArray }, if_pos rfl⟩)) (fun b u q => ?_) here (fun _ => hk)
    · by_cases hb : b = a
      · exact .inr ⟨_, _, if_pos hb⟩
      · exact .inl (if_neg hb)
    · by_cases hb : b = a
      · subst hb
        have q2 := (if_pos rfl).symm.trans q
        cases q2
        exact ⟨ha, by rw [List.length_map]; exact hl, vs, _, rv, ha⟩
      · cases (if_neg hb).symm.trans q
theorem walk_ofN {l : PySem.W.OpenLaw} {n k : Nat} {q : Program} {loose : List Str} {XP : (Str → Option Value) → Heap → Prop} {YP : World → Heap → Prop} {d : DefRec} {K : Params → PySem.W.Frag} {sp : World → Sp} {x : Str}
    (hn : l.most = some n) (hz : n ≤ sizeLine) (nd : d.params.defaults = []) (hr : Room k callerA) (hY : ∀ (w : World) (h : Heap), YP w h → (K w.params).In h)
    (F : ∀ (w : World) (mg : Str → Option Value) (fa : Addr) (h : Heap), (K w.params).In h → h.Ns mainGlobals mg → mg d.name = some (.ref fa) →
      ∃ fd : FuncData, (∀ (s : Shared) (u : Value), BindsTo s fd ⟨[u], []⟩ [(x, u)]) ∧ ∀ base : Heap, (K w.params).In base → base.Ns mainGlobals mg → FnG l.prog w (K w.params) mg base k fa fd [x] (sp w))
    (hsp : ∀ (w : World) (H : Hp) (a : Addr) (ns : List Int), ns.length ≤ n → Only H → SqL (K w.params) H a (ns.map V.int) → sp w [.ref a] H (fun v _ => v = .bl true) fun _ _ _ => False) :
    PySem.W.WalkO q loose XP YP l.row.toRowW d [] (fun f vs => PySem.call f vs) := by
  refine Att.attach_call hn nd fun w t0 t1 mg mb fa o pm cd doc a vs ns G Y ho hd hcd hmg hobj hints hlen hg => ?_
  have KX := hY w _ Y
  obtain ⟨fd, hb, hF⟩ := F w mg fa _ KX G.T.g hmg
  exact law_callN KX G.T.g G.T.b G.T.builtins G.T.nolimit hg hobj hints (Nat.le_trans hlen hz) hr hF hb fun H hO hS => hsp w H a ns hlen hO hS
end L2

namespace L2
open PySem PySem.Spec PyProof.Rows
section
variable {X : Cx}
/-- repr(x), nothing being shown around -/
def rRepr (K : PySem.W.Frag) : List V → Hp → VK → Prop := fun xs H Q => ∃ (v : V) (d : PyData), xs = [v] ∧ Dp K H v d ∧ SeqAt.shaped d = true ∧ d.showable = true ∧ d.hasDict = false ∧ d.shown.length ≤ sizeLine ∧ (∀ i, d = .int i → i.natAbs.log2 < 1920) ∧ Q (.str d.shown) H
theorem call_reprN (hN : X.A.guards = some []) {k : Nat} (hr : Room k X.A) : CallR X (.builtin "repr") (rRepr X.K) := by
  intro pins s σ H xs us Q I r h
  obtain ⟨v, d, rfl, hd, sh, hs, hh, hz, hi, q⟩ := h
  obtain ⟨u, rfl, ru⟩ := vals1 r
  have hu := hr.un
  have dp : d.depth ≤ 64 := by
    have e : (d.canLay0 && decide (d.depth ≤ 64)) = true := sh
    rw [Bool.and_eq_true] at e
    exact of_decide_eq_true e.2
  cases hd with
  | non =>
    obtain rfl : u = Value.none := ru
    exact PySem.P.repr_of_none ⟨.str _, H, I.tok _, ⟨_, rfl⟩, q⟩
  | bl b =>
    obtain rfl : u = Value.bool b := ru
    refine PySem.P.repr_of_bool ⟨.str _, H, I.tok _, ⟨_, rfl⟩, ?_⟩
    cases b <;> exact q
  | int i =>
    obtain ⟨t, rfl⟩ := ru
    exact PySem.P.repr_of_int (hi i rfl) ⟨.str _, H, I.tok _, ⟨_, rfl⟩, q⟩
  | str x =>
    obtain ⟨t, rfl⟩ := ru
    exact PySem.P.repr_of_str ⟨.str _, H, I.tok _, ⟨_, rfl⟩, q⟩ hz
  | @lst a xs ds h1 h2 =>
    obtain ⟨as, rd⟩ := Dp.reads I (.list ds) (.ref a) u (.lst h1 h2) ru
    obtain rfl : u = Value.ref a := ru
    exact repr_of_reads' rd hs (fun z => by rw [hh] at z; cases z) hN (by omega) (fun _ _ e => e) (fun h' u tk k => ⟨.str _, H, I.kept (t' := tk) k, ⟨u, rfl⟩, q⟩) hz
  | @tup a xs ds h1 h2 =>
    obtain ⟨as, rd⟩ := Dp.reads I (.tuple ds) (.ref a) u (.tup h1 h2) ru
    obtain rfl : u = Value.ref a := ru
    exact repr_of_reads' rd hs (fun z => by rw [hh] at z; cases z) hN (by omega) (fun _ _ e => e) (fun h' u tk k => ⟨.str _, H, I.kept (t' := tk) k, ⟨u, rfl⟩, q⟩) hz
end
end L2
set_option Elab.async false
set_option linter.all false
set_option maxRecDepth 100000
set_option maxHeartbeats 4000000
namespace L2
open PySem PySem.Spec PyProof.Rows
/-- an empty set, as set() lays it -/
abbrev noneIn (w : World) : Obj := { cls := .type "set", dict := none, data := .set #[] 0 (.fresh 0 0 (!w.params.followText "set-order")) }
abbrev lay1 (w : World) (h : Heap) : Heap := h.push (noneIn w)
section
variable {P : Program} {w : World} {A : Around} {E : Value → Shared → Prop} {s : Shared}
set_option maxHeartbeats 3200000 in
/-- set(xs) of a list of ints -/
theorem set_ofList {l : Addr} {its : Array Value} (ns : List Int) {Q : Value → Shared → Prop} (calm : A.handled = none) (isl : s.heap.IsList l its) (isI : IntsAre its.toList ns) (few : ns.length + 1 < scanBound)
    (fin : ∀ (g : Heap) (tk m : Nat), SetR w g s.heap.objs.size (fun j => decide (j ∈ ns)) m → m ≤ ns.length → (∀ b o, s.heap.get? b = some o → g.get? b = some o) → Q (.ref s.heap.objs.size) { s with heap := g, toks := tk }) :
    wpAny (model P w) A (call (.type "set") [.ref l]) Q E s := by
  have size : its.size = ns.length := (Array.length_toList (xs := its)).symm.trans (IntsAre.length isI)
  obtain ⟨c0, t0, mro0⟩ := F.called_set.mro
  have made0 := F.called_set.made
  have sub0 := F.called_set.sub
  refine wpAny_call (codeAny_of_tree ?_)
  show wpAny _ _ (callAny (.type "set") _) _ _ _
  refine wpAny_pure ⟨Code.quiet_builtin _ (by decide +kernel), codeAny_builtin F.entry_type_call ?_⟩
  rw [Around.under_plain (weight_type_call_type "set" [.ref l] []) rfl]
  have k1 := F.called_set.notType
  have k2 := F.called_set.canCreate
  have k3 := F.typeCall_set_1 (.ref l)
  repeat (any_goals (first | assumption | wp_step))
  refine codeAny_mono (code_set_led1 (.ref l) (E := E) (Q₁ := fun v u => v = .ref s.heap.objs.size ∧ u = { s with heap := lay1 w s.heap }) ⟨rfl, rfl⟩) fun r u hr => ?_
  cases r with
  | error e => exact hr
  | ok fl =>
    cases fl with
    | ret v =>
      obtain ⟨rfl, rfl⟩ := hr
      have at0 : (lay1 w s.heap).get? s.heap.objs.size = some (noneIn w) := Heap.get?_push_size _ rfl
      have isT : Shared.TypeIs { s with heap := lay1 w s.heap } (.ref s.heap.objs.size) "set" := ⟨_, at0, rfl⟩
      have k4 := F.called_set.init.lookup
      have k5 := F.called_set.init.bind (.ref s.heap.objs.size)
      repeat (any_goals (first | assumption | wp_step))
      refine codeAny_mono (codeAny_call_builtin (R := wants (fun r u => r = .none ∧ ∃ g tk m, u = { s with heap := g, toks := tk } ∧ SetR w g s.heap.objs.size (fun j => decide (j ∈ ns)) m ∧ m ≤ ns.length ∧ (∀ b o, s.heap.get? b = some o → g.get? b = some o)) E)
        F.called_set.init.plain F.entry_set_init (check_set_init_1 isT ?_)) fun r2 u2 hr2 => ?_
      · obtain ⟨⟨cl, di, da, sl⟩, el, hcl, nl, hda⟩ := isl
        simp only at hcl hda
        subst hcl
        subst hda
        have el1 : (lay1 w s.heap).get? l = some { cls := .type "list", dict := di, data := .seq its nl, slots := sl } := Heap.get?_push_of_some _ el
        have k6 := F.sub_list_set
        have k7 := F.sub_list_frozenset
        have k8 : (Value.type "list" == Value.type "dict") = false := by decide
        have isl1 : (lay1 w s.heap).IsList l its := ⟨_, el1, rfl, nl, rfl⟩
        unfold Builtin.«set.__init__» noKeywords Builtin.Frozenset.updateFrom
        generalize hPI : pyIter = PI
        wp_walk
        subst hPI
        refine wpAny_pyIter_list isl1 (wpAny_bind (wpAny_runValue ?_))
        have old : l < s.heap.objs.size := Heap.lt_size el
        have calm3 : A.in1.in1.in1.handled = none := by simp [calm]
        have sz1 : (lay1 w s.heap).objs.size = s.heap.objs.size + 1 := Heap.size_push ..
        have apart : l ≠ (lay1 w s.heap).objs.size := by rw [sz1]; exact Nat.ne_of_lt (Nat.lt_succ_of_lt old)
        have clear : s.heap.objs.size ∉ [(lay1 w s.heap).objs.size, l] := by
          rw [sz1]
          simp only [List.mem_cons, List.not_mem_nil, or_false, not_or]
          exact ⟨Nat.ne_of_lt (Nat.lt_succ_self _), Nat.ne_of_gt old⟩
        have vals : ∀ (i : Nat) (v : Value), its[i]? = some v → ∃ k t, ns[i]? = some k ∧ v = .int k t := fun i v hv => by
          have lt : i < ns.length := by rw [← size]; exact (Array.getElem?_eq_some_iff.mp hv).1
          obtain ⟨t, e⟩ := PyProof.Rows.IntsAre.int_at isI i v (by rw [Array.getElem?_toList]; exact hv)
          exact ⟨ns[i], t, List.getElem?_eq_getElem lt, by rw [e, List.getD_eq_getElem?_getD, List.getElem?_eq_getElem lt]; rfl⟩
        refine set_update_ints ((Walks.list calm3 _ l apart its).toS) s.heap.objs.size clear ns size few vals (its.size - 0) 0 _ (by omega) (Nat.zero_le _) ⟨⟨_, Heap.get?_push_size _ rfl, rfl, rfl⟩, isl1.push _⟩ ?first ?last
        case first => exact ⟨0, Nat.le_refl 0, setR_new_at (Heap.get?_push_of_some _ at0)⟩
        case last =>
          intro u m mv hm R
          obtain ⟨g, g2, d2, tk, os2⟩ := u
          obtain rfl : g2 = s.gens := mv.gens
          obtain rfl : d2 = s.drawn := mv.drawn
          obtain rfl : os2 = s.os := mv.os
          show wpAny _ _ _ _ _ _
          refine wpAny_pure ?_
          show wpAny _ _ (ret Value.none) _ _ _
          rw [size] at hm
          refine wpAny_pure ⟨rfl, g, tk, m, rfl, R, hm, fun b o e => ?_⟩
          have lt := Heap.lt_size e
          refine mv.heap b o ?_ (Heap.get?_push_of_some _ (Heap.get?_push_of_some _ e))
          simp only [List.mem_cons, List.not_mem_nil, or_false, not_or]
          rw [sz1]
          exact ⟨Nat.ne_of_lt lt, Nat.ne_of_lt (Nat.lt_succ_of_lt lt)⟩
      · cases r2 with
        | error e => exact hr2
        | ok f2 =>
          cases f2 with
          | ret r =>
            obtain ⟨rfl, g, tk, m, rfl, R, hm, kp⟩ := hr2
            repeat (any_goals (first | assumption | wp_step))
            exact fin _ _ _ R hm kp
          | _ => exact hr2.elim
    | _ => exact hr.elim
end
section
variable {X : Cx}
/-- set(xs), a list of ints -/
def rSetOf (K : PySem.W.Frag) (w : World) : List V → Hp → VK → Prop := fun xs H Q => ∃ (l : Addr) (ns : List Int), xs = [V.ref l] ∧ SqL K H l (ns.map V.int) ∧ ns.length < 64 ∧
  ∀ (a : Addr) (S : Int → Bool) (n : Nat), H a = none → (∀ k, S k = true ↔ k ∈ ns) → n ≤ ns.length → Q (.ref a) (upd H a (SetO w a S n))
theorem cr_setL (hc : X.calm = true) : CallR X (.type "set") (rSetOf X.K X.w) := by
  intro pins s σ H xs us Q I r h
  obtain ⟨l, ns, rfl, hq, few, q⟩ := h
  rw [Vals.ref1 r]
  obtain ⟨its, rv, pl, hz⟩ := I.list hq
  refine set_ofList ns (I.ok.hd hc) pl.isList (by simpa using ints_of_vals rv) (by unfold scanBound; omega) fun g tk m R hm kp => ?_
  have nH : H s.heap.objs.size = none := I.hok.fresh (Nat.le_refl _)
  exact ⟨.ref _, _, I.laid (t' := tk) kp (Nat.le_refl _) (setO_new R), rfl, q _ _ m nH (fun k => decide_eq_true_iff) hm⟩
end
end L2
set_option Elab.async false
set_option linter.all false
set_option maxRecDepth 100000
set_option maxHeartbeats 4000000
namespace L2
open PySem PySem.Spec PyProof.Rows
section
variable {X : Cx}
/-- the walk of a list or a tuple -/
theorem pi_or {tg iter : Expr} {w1 w2 : TI} (h1 : PI X tg iter w1) (h2 : PI X tg iter w2) : PI X tg iter (fun σ H R => w1 σ H R ∨ w2 σ H R) :=
  ⟨fun pins s σ H R I h => h.elim (h1.run pins s σ H R I) (h2.run pins s σ H R I)⟩
end
end L2
namespace Evl
open PySem L2
def EvD (te : TE) (σ : L2.St) (H : Hp) (kvs : List (Key × V)) : Prop := ∀ H1, Ex H H1 → ∀ Q : VK, (∀ p H2, H1 p = none → Ex H1 H2 → H2 p = some (.dK kvs) → Q (.ref p) H2) → te σ H1 Q
section
variable {K : PySem.W.Frag} {σ : L2.St} {H H' : Hp} {ta tb te tx : TE} {t u : TT} {x y z v : V}
theorem EvU.mono {xs : List V} (e : Ex H H') (h : EvU te σ H xs) : EvU te σ H' xs := fun H1 a Q q => h H1 (e.trans a) Q q
theorem ev_fld {f : Str} {a C dx : Addr} {fs : List (Str × V)} (ha : Ev ta σ H (.ref a)) (he : H a = some (.ins C dx fs)) (c : Cls K C) (n : NoAttr K C f) (l : fs.lookup f = some v) : Ev (tFld K ta f) σ H v := fun H1 e Q q =>
  ha H1 e _ fun H2 e2 => ⟨a, C, dx, fs, v, rfl, (e.trans e2) _ _ he, c, n, l, q H2 e2⟩
theorem ev_dget {d : Addr} {kvs : List (Key × V)} {i : Int} (hd : Ev ta σ H (.ref d)) (hk : Ev tb σ H (.int i)) (e0 : H d = some (.dK kvs)) (h : valV kvs (Sum.inl i) = some v) : Ev (tDGet ta tb) σ H v := fun H1 e Q q =>
  hd H1 e _ fun H2 e2 => hk H2 (e.trans e2) _ fun H3 e3 => ⟨d, v, rfl, by
    have g := DGet.k (k := Sum.inl i) (((e.trans e2).trans e3) _ _ e0)
    rw [h] at g
    exact g, q H3 (e2.trans e3)⟩
theorem ev_din {d : Addr} {kvs : List (Key × V)} {i : Int} (hk : Ev tb σ H (.int i)) (hd : Ev ta σ H (.ref d)) (e0 : H d = some (.dK kvs)) : Ev (tDIn tb ta) σ H (.bl (valV kvs (Sum.inl i)).isSome) := fun H1 e Q q =>
  hk H1 e _ fun H2 e2 => hd H2 (e.trans e2) _ fun H3 e3 => ⟨d, _, rfl, DGet.k (k := Sum.inl i) (((e.trans e2).trans e3) _ _ e0), q H3 (e2.trans e3)⟩
theorem ev_isN (h : Ev ta σ H x) : Ev (tIsN ta) σ H (.bl (decide (x = .non))) := fun H1 e Q q => h H1 e _ fun H2 e2 => q H2 e2
/-- which items of xs give -/
def pick {α : Type} (xs : List α) (p : α → Bool) (i : Nat) : Bool := match xs[i]? with
  | some a => p a
  | none => false
def pickV {α : Type} (xs : List α) (g : α → V) (i : Nat) : V := match xs[i]? with
  | some a => g a
  | none => .non
theorem given_pick {α : Type} (p : α → Bool) (g : α → V) : ∀ (xs : List α), given xs.length (pick xs p) (pickV xs g) = (xs.filter p).map g := by
  intro xs
  have key : ∀ n, n ≤ xs.length → given n (pick xs p) (pickV xs g) = ((xs.take n).filter p).map g := by
    intro n
    induction n with
    | zero => intro _; simp [given]
    | succ n ih =>
      intro hn
      have hlt : n < xs.length := hn
      have e : xs[n]? = some xs[n] := List.getElem?_eq_getElem hlt
      have tk : xs.take (n + 1) = xs.take n ++ [xs[n]] := by rw [List.take_add_one, e]; rfl
      have pk : pick xs p n = p xs[n] := by unfold pick; rw [e]
      have pv : pickV xs g n = g xs[n] := by unfold pickV; rw [e]
      rw [tk, List.filter_append, List.map_append]
      cases hp : p xs[n] with
      | true =>
        rw [given_yes (by rw [pk]; exact hp), ih (Nat.le_of_lt hlt), pv]
        simp [hp]
      | false =>
        rw [given_no (by rw [pk]; exact hp), ih (Nat.le_of_lt hlt)]
        simp [hp]
  rw [key xs.length (Nat.le_refl _), List.take_length]
/-- [e for x in xs if t], xs a list that stands: by its items -/
theorem el_lcG {α : Type} {a : Addr} {xs : List α} {tl : TE} {j : Nat} {vs : List Nat} (emb : α → V) (p : α → Bool) (g : α → V) (h : Ev tl σ H (.ref a)) (hx : SqL K H a (xs.map emb)) (hz : xs.length ≤ 40000) (hw : ∀ x, wipe ((wipe σ vs).set j (some x)) vs = wipe σ vs)
    (ht : ∀ b ∈ xs, ∀ H1, Ex H H1 → EvT t ((wipe σ vs).set j (some (emb b))) H1 (p b)) (he : ∀ b ∈ xs, p b = true → ∀ H1, Ex H H1 → Ev te ((wipe σ vs).set j (some (emb b))) H1 (g b)) :
    EvL (tLc (iList K tl) (gName j) t te vs) σ H ((xs.filter p).map g) := by
  have len : (xs.map emb).length = xs.length := List.length_map _
  have at_ : ∀ {i : Nat} {x : V}, (xs.map emb)[i]? = some x → ∃ b, xs[i]? = some b ∧ b ∈ xs ∧ x = emb b := fun {i x} e => by
    rw [List.getElem?_map] at e
    obtain ⟨b, e1, e2⟩ := Option.map_eq_some_iff.mp e
    exact ⟨b, e1, List.mem_of_getElem? e1, e2.symm⟩
  have r := el_lcL (K := K) (xs := xs.map emb) (te := te) (t := t) (j := j) (vs := vs) (pick xs p) (pickV xs g) h hx (by rw [len]; exact hz) hw (fun i x H1 e1 hi => by
      obtain ⟨b, eb, mb, rfl⟩ := at_ hi
      have pk : pick xs p i = p b := by unfold pick; rw [eb]
      rw [pk]
      exact ht b mb H1 e1) (fun i x H1 e1 hi hf => by
      obtain ⟨b, eb, mb, rfl⟩ := at_ hi
      have pk : pick xs p i = p b := by unfold pick; rw [eb]
      have pv : pickV xs g i = g b := by unfold pickV; rw [eb]
      rw [pv]
      exact he b mb (by rw [← pk]; exact hf) H1 e1)
  rw [len, given_pick] at r
  exact r
/-- the same over a new list -/
theorem el_lcGN {α : Type} {xs : List α} {tl : TE} {j : Nat} {vs : List Nat} (emb : α → V) (p : α → Bool) (g : α → V) (h : EvL tl σ H (xs.map emb)) (hz : xs.length ≤ 40000) (hw : ∀ x, wipe ((wipe σ vs).set j (some x)) vs = wipe σ vs)
    (ht : ∀ b ∈ xs, ∀ H1, Ex H H1 → EvT t ((wipe σ vs).set j (some (emb b))) H1 (p b)) (he : ∀ b ∈ xs, p b = true → ∀ H1, Ex H H1 → Ev te ((wipe σ vs).set j (some (emb b))) H1 (g b)) :
    EvL (tLc (iList K tl) (gName j) t te vs) σ H ((xs.filter p).map g) := by
  have len : (xs.map emb).length = xs.length := List.length_map _
  have at_ : ∀ {i : Nat} {x : V}, (xs.map emb)[i]? = some x → ∃ b, xs[i]? = some b ∧ b ∈ xs ∧ x = emb b := fun {i x} e => by
    rw [List.getElem?_map] at e
    obtain ⟨b, e1, e2⟩ := Option.map_eq_some_iff.mp e
    exact ⟨b, e1, List.mem_of_getElem? e1, e2.symm⟩
  have r := el_lcNL (K := K) (xs := xs.map emb) (te := te) (t := t) (j := j) (vs := vs) (pick xs p) (pickV xs g) h (by rw [len]; exact hz) hw (fun i x H1 e1 hi => by
      obtain ⟨b, eb, mb, rfl⟩ := at_ hi
      have pk : pick xs p i = p b := by unfold pick; rw [eb]
      rw [pk]
      exact ht b mb H1 e1) (fun i x H1 e1 hi hf => by
      obtain ⟨b, eb, mb, rfl⟩ := at_ hi
      have pk : pick xs p i = p b := by unfold pick; rw [eb]
      have pv : pickV xs g i = g b := by unfold pickV; rw [eb]
      rw [pv]
      exact he b mb (by rw [← pk]; exact hf) H1 e1)
  rw [len, given_pick] at r
  exact r
theorem et_yes : EvT tYes σ H true := fun H1 _ _ q => q H1 (Ex.refl H1)
theorem filter_all {α : Type} (xs : List α) : xs.filter (fun _ => true) = xs := List.filter_eq_self.mpr fun _ _ => rfl
/-- sorted(set(xs)) of a new list of ints -/
theorem el_sset {w : World} {ns : List Int} {tl : TE} (h : EvL tl σ H (ns.map V.int)) (hz : ns.length < 64) : EvL (tCB (rSortedSet w) (tCons (tCB (rSetOf K w) (tCons tl tNil)) tNil)) σ H ((KB.asc ns).map V.int) := fun H1 e Q q =>
  h H1 e _ fun p H2 np e2 hp => ⟨p, ns, rfl, sq_of hp, hz, fun a S n na hS hn => ⟨a, S, n, rfl, upd_same, by omega, fun ys r so hm hl nr => by
    have ey : ys = KB.asc ns := KB.asc_eq so fun k => (hm k).trans (hS k)
    subst ey
    have e3 : Ex H1 (upd H2 a (SetO w a S n)) := e2.trans (Ex.new na)
    exact q r _ (fresh_back e3 nr) (e3.trans (Ex.new nr)) upd_same⟩⟩
end
end Evl
set_option Elab.async false
set_option linter.all false
set_option maxRecDepth 100000
set_option maxHeartbeats 4000000
namespace KB
open PySem PySem.Spec PyProof.Rows L2 Evl
def topS (i : Nat) : Stmt := PySem.Challenge.pw_treethaw_k32_helpers_counted.main.body.getD i (.Pass ⟨0, 0, 0, 0⟩)
/-- the class Kin -/
structure KT (K : PySem.W.Frag) (C : Addr) : Prop where
  cls : Cls K C
  n1 : NoAttr K C "rows"
  n2 : NoAttr K C "members"
  n3 : NoAttr K C "parents"
  n4 : NoAttr K C "sessions"
  n5 : NoAttr K C "groups"
  n6 : NoAttr K C "adopting"
  n7 : NoAttr K C "root"
def wordOf (n : Nat) : Str := if n = 1 then "ended" else if n = 2 then "stopped" else "runs"
/-- a row of an image, a tuple or a list -/
def RowAt (H : Hp) (v : V) (r : Rw) : Prop := ∃ (a : Addr) (xs : List V), v = .ref a ∧ (H a = some (.tup xs) ∨ H a = some (.lst xs)) ∧ xs.length = 10 ∧ xs[0]? = some (.int r.n) ∧ xs[1]? = some (if r.up = 1 then .non else .int r.up) ∧
  xs[2]? = some (.int r.s) ∧ xs[3]? = some (.int r.g) ∧ xs[4]? = some (.bl r.ad) ∧ xs[5]? = some (.str (wordOf r.w))
theorem RowAt.mono {H H' : Hp} {v : V} {r : Rw} (e : Ex H H') (h : RowAt H v r) : RowAt H' v r := by
  obtain ⟨a, xs, h1, h2, h3⟩ := h
  exact ⟨a, xs, h1, h2.imp (e _ _) (e _ _), h3⟩
/-- the families of an image as the program keeps them -/
structure Kn (H : Hp) (C k : Addr) (M : Fam) : Prop where
  is : ∃ (dx a1 a2 a3 a4 a5 a6 : Addr) (root : Int) (k1 k3 k4 k5 k6 : List (Key × V)),
    H k = some (.ins C dx [("rows", .ref a1), ("members", .ref a2), ("parents", .ref a3), ("sessions", .ref a4), ("groups", .ref a5), ("adopting", .ref a6), ("root", .int root)]) ∧
    H a1 = some (.dK k1) ∧ H a2 = some (.lst ((keys M).map V.int)) ∧ H a3 = some (.dK k3) ∧ H a4 = some (.dK k4) ∧ H a5 = some (.dK k5) ∧ H a6 = some (.dK k6) ∧
    (∀ n, (valV k1 (Sum.inl n)).isSome = decide (n ∈ keys M)) ∧ (∀ r ∈ M, ∃ v, valV k1 (Sum.inl r.n) = some v ∧ RowAt H v r) ∧ (∀ n ∈ keys M, valV k3 (Sum.inl n) = some (.int (up M n))) ∧
    (∀ n, n = 1 ∨ n ∈ keys M → valV k4 (Sum.inl n) = some (.int (ses M n))) ∧ (∀ n, n = 1 ∨ n ∈ keys M → valV k5 (Sum.inl n) = some (.int (grp M n))) ∧ (∀ n, n = 1 ∨ n ∈ keys M → valV k6 (Sum.inl n) = some (.bl (ado M n))) ∧
    root ∈ keys M ∧ (∀ n ∈ keys M, decide (n = root) = decide (up M n = 1))
section
variable {K : PySem.W.Frag} {σ : L2.St} {H H' : Hp} {C k : Addr} {M : Fam} {ta tb : TE} {n : Int}
theorem Kn.mono (e : Ex H H') (h : Kn H C k M) : Kn H' C k M := by
  obtain ⟨dx, a1, a2, a3, a4, a5, a6, root, k1, k3, k4, k5, k6, h0, h1, h2, h3, h4, h5, h6, r1, r2, r3⟩ := h.is
  exact ⟨dx, a1, a2, a3, a4, a5, a6, root, k1, k3, k4, k5, k6, e _ _ h0, e _ _ h1, e _ _ h2, e _ _ h3, e _ _ h4, e _ _ h5, e _ _ h6, r1, fun r m => by
    obtain ⟨v, z1, z2⟩ := r2 r m
    exact ⟨v, z1, z2.mono e⟩, r3⟩
variable (T : KT K C) (N : Kn H C k M) (hk : Ev ta σ H (.ref k))
include T N hk
theorem kn_members : ∃ a, Ev (tFld K ta "members") σ H (.ref a) ∧ SqL K H a ((keys M).map V.int) := by
  obtain ⟨dx, a1, a2, a3, a4, a5, a6, root, k1, k3, k4, k5, k6, h0, h1, h2, _⟩ := N.is
  exact ⟨a2, ev_fld hk h0 T.cls T.n2 rfl, sq_of h2⟩
theorem kn_in (hb : Ev tb σ H (.int n)) : Ev (tDIn tb (tFld K ta "rows")) σ H (.bl (decide (n ∈ keys M))) := by
  obtain ⟨dx, a1, a2, a3, a4, a5, a6, root, k1, k3, k4, k5, k6, h0, h1, h2, h3, h4, h5, h6, r1, _⟩ := N.is
  rw [← r1 n]
  exact ev_din hb (ev_fld hk h0 T.cls T.n1 rfl) h1
theorem kn_par (hb : Ev tb σ H (.int n)) (m : n ∈ keys M) : Ev (tDGet (tFld K ta "parents") tb) σ H (.int (up M n)) := by
  obtain ⟨dx, a1, a2, a3, a4, a5, a6, root, k1, k3, k4, k5, k6, h0, h1, h2, h3, h4, h5, h6, r1, r2, r3, _⟩ := N.is
  exact ev_dget (ev_fld hk h0 T.cls T.n3 rfl) hb h3 (r3 n m)
theorem kn_ses (hb : Ev tb σ H (.int n)) (m : n = 1 ∨ n ∈ keys M) : Ev (tDGet (tFld K ta "sessions") tb) σ H (.int (ses M n)) := by
  obtain ⟨dx, a1, a2, a3, a4, a5, a6, root, k1, k3, k4, k5, k6, h0, h1, h2, h3, h4, h5, h6, r1, r2, r3, r4, _⟩ := N.is
  exact ev_dget (ev_fld hk h0 T.cls T.n4 rfl) hb h4 (r4 n m)
theorem kn_grp (hb : Ev tb σ H (.int n)) (m : n = 1 ∨ n ∈ keys M) : Ev (tDGet (tFld K ta "groups") tb) σ H (.int (grp M n)) := by
  obtain ⟨dx, a1, a2, a3, a4, a5, a6, root, k1, k3, k4, k5, k6, h0, h1, h2, h3, h4, h5, h6, r1, r2, r3, r4, r5, _⟩ := N.is
  exact ev_dget (ev_fld hk h0 T.cls T.n5 rfl) hb h5 (r5 n m)
theorem kn_ado (hb : Ev tb σ H (.int n)) (m : n = 1 ∨ n ∈ keys M) : Ev (tDGet (tFld K ta "adopting") tb) σ H (.bl (ado M n)) := by
  obtain ⟨dx, a1, a2, a3, a4, a5, a6, root, k1, k3, k4, k5, k6, h0, h1, h2, h3, h4, h5, h6, r1, r2, r3, r4, r5, r6, _⟩ := N.is
  exact ev_dget (ev_fld hk h0 T.cls T.n6 rfl) hb h6 (r6 n m)
theorem kn_root : ∃ root, Ev (tFld K ta "root") σ H (.int root) ∧ root ∈ keys M ∧ ∀ n ∈ keys M, decide (n = root) = decide (up M n = 1) := by
  obtain ⟨dx, a1, a2, a3, a4, a5, a6, root, k1, k3, k4, k5, k6, h0, h1, h2, h3, h4, h5, h6, r1, r2, r3, r4, r5, r6, r7, r8⟩ := N.is
  exact ⟨root, ev_fld hk h0 T.cls T.n7 rfl, r7, r8⟩
end
theorem dec_int (a b : Int) : decide (V.int a = V.int b) = decide (a = b) := by
  by_cases h : a = b
  · simp [h]
  · simp [h]
/-! ### sessions_of, groups_of, is_led, is_top -/
abbrev sSessions : Stmt := topS 3
abbrev sGroups : Stmt := topS 4
abbrev sIsLed : Stmt := topS 5
abbrev sIsTop : Stmt := topS 7
abbrev sTops : Stmt := topS 8
abbrev sOthers : Stmt := topS 9
theorem scSessions : FnScope ["kin", "at"] ["kin"] (defScope sSessions) := ⟨rfl, rfl, rfl, by decide +kernel, rfl, by decide +kernel, by decide +kernel⟩
theorem scGroups : FnScope ["kin", "at"] ["kin"] (defScope sGroups) := ⟨rfl, rfl, rfl, by decide +kernel, rfl, by decide +kernel, by decide +kernel⟩
theorem scIsLed : FnScope ["kin", "session"] ["kin", "session"] (defScope sIsLed) := ⟨rfl, rfl, rfl, by decide +kernel, rfl, by decide +kernel, by decide +kernel⟩
theorem scIsTop : FnScope ["kin", "number"] ["kin", "number"] (defScope sIsTop) := ⟨rfl, rfl, rfl, by decide +kernel, rfl, by decide +kernel, by decide +kernel⟩
theorem scTops : FnScope ["kin", "session", "at"] ["kin", "session"] (defScope sTops) := ⟨rfl, rfl, rfl, by decide +kernel, rfl, by decide +kernel, by decide +kernel⟩
theorem scOthers : FnScope ["kin", "session", "at"] ["kin", "session"] (defScope sOthers) := ⟨rfl, rfl, rfl, by decide +kernel, rfl, by decide +kernel, by decide +kernel⟩
def spSessions (C : Addr) : Sp := fun vs H Q _ => ∃ k M, vs = [.ref k] ∧ Kn H C k M ∧ WF M ∧ RetL ((sessions M).map V.int) H Q
def spGroups (C : Addr) : Sp := fun vs H Q _ => ∃ k M, vs = [.ref k] ∧ Kn H C k M ∧ WF M ∧ RetL ((groups M).map V.int) H Q
def spIsLed (C : Addr) : Sp := fun vs H Q _ => ∃ k M n, vs = [.ref k, .int n] ∧ Kn H C k M ∧ RetV (.bl (decide (n ∈ keys M))) H Q
def spIsTop (C : Addr) : Sp := fun vs H Q _ => ∃ k M n, vs = [.ref k, .int n] ∧ Kn H C k M ∧ WF M ∧ n ∈ keys M ∧ RetV (.bl (topB M (ses M n) n)) H Q
def spTops (C : Addr) : Sp := fun vs H Q _ => ∃ k M s, vs = [.ref k, .int s] ∧ Kn H C k M ∧ WF M ∧ RetL ((tops M s).map V.int) H Q
def spOthers (C : Addr) : Sp := fun vs H Q _ => ∃ k M s, vs = [.ref k, .int s] ∧ Kn H C k M ∧ WF M ∧ RetL (((tops M s).filter fun n => !decide (n = s)).map V.int) H Q
theorem len_keys (M : Fam) : (keys M).length = M.length := List.length_map _
theorem ses_map (W : WF M) : (keys M).map (ses M) = M.map (·.s) := by
  unfold keys
  rw [List.map_map]
  exact List.map_congr_left fun r m => W.ses m
theorem grp_map (W : WF M) : (keys M).map (grp M) = M.map (·.g) := by
  unfold keys
  rw [List.map_map]
  exact List.map_congr_left fun r m => W.grp m
section
variable {P : Program} {w : World} {K : PySem.W.Frag} {mg : Str → Option Value} {base : Heap} {f fT : Addr} {fd dT : FuncData} {C : Addr}
theorem ok_sessions (F : Fun K "sessions_of" "sessions_of" sSessions f fd) (T : KT K C) (mo : mg "sorted" = none) (ms : mg "set" = none) : FnOk P w K mg base CX0 1 f fd ["kin"] (spSessions C) := by
  refine F.ok scSessions (fun vs H Q E h => ?_) (fun cdv A outer s H vs Q E hr h => ?_)
  · obtain ⟨k, M, rfl, _⟩ := h
    rfl
  · obtain ⟨k, M, rfl, N, W, q⟩ := h
    have hu := hu_of hr
    refine ⟨_, pss_one (ps_ret (pe_callB (cr_sortedSet rfl) (by rfl) mo (by decide +kernel) (pa_cons (pe_callTy (cr_setL rfl) (by rfl) ms (by decide +kernel) (pa_cons
      (pe_lc (own := [("at", 1)]) (g := gName 1) (tt := tYes) (te := tDGet (tFld K (tVar 0) "sessions") (tVar 1)) rfl scSessions.nd (pi_list (pe_fld (pv 0) rfl)) (blkOk_by (N := ["kin", "at"]) (sc := defScope sSessions) (by decide +kernel))
        (fun _ _ _ _ _ => pg_name (i := 1) scSessions.nd rfl (Or.inl rfl)) (fun _ _ _ _ _ => pts_nil) (fun _ _ _ _ _ => pe_dget hu (pe_fld (pv 0) rfl) (pv 1) (fun _ _ => rfl))) pa_nil)) pa_nil))), ?_⟩
    obtain ⟨a, ea, la⟩ := kn_members (σ := start ["kin", "at"] [.ref k]) T N (ev_var (i := 0) rfl)
    have few : (keys M).length < 64 := by rw [len_keys]; have := W.few; omega
    have lc := el_lcG (K := K) (te := tDGet (tFld K (tVar 0) "sessions") (tVar 1)) (t := tYes) (j := 1) (vs := [1]) V.int (fun _ => true) (fun n => .int (ses M n)) ea la (by omega) (fun x => rfl) (fun b _ H1 _ => et_yes) (fun b mb _ H1 e1 => kn_ses T (N.mono e1) (ev_var rfl) (ev_var rfl) (.inr mb))
    rw [Evl.filter_all] at lc
    have e2 : (keys M).map (fun n => V.int (ses M n)) = ((keys M).map (ses M)).map V.int := by rw [List.map_map]; rfl
    rw [e2] at lc
    refine s_retL (el_sset lc (by rw [List.length_map]; exact few)) fun p H1 hp e h1 => ?_
    rw [ses_map W] at h1
    exact q p H1 hp e h1
theorem ok_groups (F : Fun K "groups_of" "groups_of" sGroups f fd) (T : KT K C) (mo : mg "sorted" = none) (ms : mg "set" = none) : FnOk P w K mg base CX0 1 f fd ["kin"] (spGroups C) := by
  refine F.ok scGroups (fun vs H Q E h => ?_) (fun cdv A outer s H vs Q E hr h => ?_)
  · obtain ⟨k, M, rfl, _⟩ := h
    rfl
  · obtain ⟨k, M, rfl, N, W, q⟩ := h
    have hu := hu_of hr
    refine ⟨_, pss_one (ps_ret (pe_callB (cr_sortedSet rfl) (by rfl) mo (by decide +kernel) (pa_cons (pe_callTy (cr_setL rfl) (by rfl) ms (by decide +kernel) (pa_cons
      (pe_lc (own := [("at", 1)]) (g := gName 1) (tt := tYes) (te := tDGet (tFld K (tVar 0) "groups") (tVar 1)) rfl scGroups.nd (pi_list (pe_fld (pv 0) rfl)) (blkOk_by (N := ["kin", "at"]) (sc := defScope sGroups) (by decide +kernel))
        (fun _ _ _ _ _ => pg_name (i := 1) scGroups.nd rfl (Or.inl rfl)) (fun _ _ _ _ _ => pts_nil) (fun _ _ _ _ _ => pe_dget hu (pe_fld (pv 0) rfl) (pv 1) (fun _ _ => rfl))) pa_nil)) pa_nil))), ?_⟩
    obtain ⟨a, ea, la⟩ := kn_members (σ := start ["kin", "at"] [.ref k]) T N (ev_var (i := 0) rfl)
    have few : (keys M).length < 64 := by rw [len_keys]; have := W.few; omega
    have lc := el_lcG (K := K) (te := tDGet (tFld K (tVar 0) "groups") (tVar 1)) (t := tYes) (j := 1) (vs := [1]) V.int (fun _ => true) (fun n => .int (grp M n)) ea la (by omega) (fun x => rfl) (fun b _ H1 _ => et_yes) (fun b mb _ H1 e1 => kn_grp T (N.mono e1) (ev_var rfl) (ev_var rfl) (.inr mb))
    rw [Evl.filter_all] at lc
    have e2 : (keys M).map (fun n => V.int (grp M n)) = ((keys M).map (grp M)).map V.int := by rw [List.map_map]; rfl
    rw [e2] at lc
    refine s_retL (el_sset lc (by rw [List.length_map]; exact few)) fun p H1 hp e h1 => ?_
    rw [grp_map W] at h1
    exact q p H1 hp e h1
theorem ok_isled (F : Fun K "is_led" "is_led" sIsLed f fd) (T : KT K C) : FnOk P w K mg base CX0 1 f fd ["kin", "session"] (spIsLed C) := by
  refine F.ok scIsLed (fun vs H Q E h => ?_) (fun cdv A outer s H vs Q E hr h => ?_)
  · obtain ⟨k, M, n, rfl, _⟩ := h
    rfl
  · obtain ⟨k, M, n, rfl, N, q⟩ := h
    have hu := hu_of hr
    refine ⟨_, pss_one (ps_ret (pe_cmp (pc_din hu (pv 1) (pe_fld (pv 0) rfl)) rfl)), ?_⟩
    exact s_ret (kn_in T N (ev_var rfl) (ev_var rfl)) q
theorem ok_istop (F : Fun K "is_top" "is_top" sIsTop f fd) (T : KT K C) : FnOk P w K mg base CX0 1 f fd ["kin", "number"] (spIsTop C) := by
  refine F.ok scIsTop (fun vs H Q E h => ?_) (fun cdv A outer s H vs Q E hr h => ?_)
  · obtain ⟨k, M, n, rfl, _⟩ := h
    rfl
  · obtain ⟨k, M, n, rfl, N, W, m, q⟩ := h
    have hu := hu_of hr
    refine ⟨_, pss_one (ps_ret (pe_or (pe_cmpR op_eq (pv 1) (pe_fld (pv 0) rfl) (nomark _)) (pe_one (pe_cmpR op_ne (pe_dget hu (pe_fld (pv 0) rfl) (pe_dget hu (pe_fld (pv 0) rfl) (pv 1) (fun _ _ => rfl)) (fun _ _ => rfl)) (pe_dget hu (pe_fld (pv 0) rfl) (pv 1) (fun _ _ => rfl)) (nomark _))))), ?_⟩
    obtain ⟨root, er, _, hroot⟩ := kn_root (σ := start ["kin", "number"] [.ref k, .int n]) T N (ev_var (i := 0) rfl)
    have mu : up M n = 1 ∨ up M n ∈ keys M := by
      by_cases z : up M n = 1
      · exact .inl z
      · exact .inr (W.up_in m z)
    have v : (V.bl (decide (V.int n = V.int root) || !decide (V.int (ses M (up M n)) = V.int (ses M n)))) = .bl (topB M (ses M n) n) := by
      rw [dec_int, dec_int, hroot n m]
      unfold topB
      rw [decide_eq_true (rfl : ses M n = ses M n), Bool.true_and]
    refine s_ret (ev_is (ev_orV (ev_op (ev_var rfl) er (rv_eq rfl)) (fun _ => ev_op (kn_ses T N (ev_var rfl) (kn_par T N (ev_var rfl) (ev_var rfl) m) mu) (kn_ses T N (ev_var rfl) (ev_var rfl) (.inr m)) (rv_ne rfl))) v) q
theorem ok_tops (F : Fun K "tops" "tops" sTops f fd) (T : KT K C) (G : FnOk P w K mg base CX0 1 fT dT ["kin", "number"] (spIsTop C)) (bG : Binds K dT ["kin", "number"] []) (kG : PySem.W.keepIn K (.ref fT) = true) (mG : mg "is_top" = some (.ref fT)) : FnOk P w K mg base CX0 2 f fd ["kin", "session"] (spTops C) := by
  refine F.ok scTops (fun vs H Q E h => ?_) (fun cdv A outer s H vs Q E hr h => ?_)
  · obtain ⟨k, M, s, rfl, _⟩ := h
    rfl
  · obtain ⟨k, M, n, rfl, N, W, q⟩ := h
    have hu := hu_of hr
    refine ⟨_, pss_one (ps_ret (pe_lc (own := [("at", 2)]) (g := gName 2) (tt := tAnd (tTest (tOp rEq (tDGet (tFld K (tVar 0) "sessions") (tVar 2)) (tVar 1))) (tTest (tCall (spIsTop C) [] E0 (tCons (tVar 0) (tCons (tVar 2) tNil))))) (te := tVar 2) rfl scTops.nd (pi_list (pe_fld (pv 0) rfl)) (blkOk_by (N := ["kin", "session", "at"]) (sc := defScope sTops) (by decide +kernel))
        (fun _ _ _ _ _ => pg_name (i := 2) scTops.nd rfl (Or.inl rfl)) (fun _ _ _ _ _ => pts_one (PW.pt (pw_and (pt_cmpR op_eq (pe_dget hu (pe_fld (pv 0) rfl) (pv 2) (fun _ _ => rfl)) (pv 1) (nomark _)) (pw_and1 (pt_val (pe_call G hr rfl mG kG bG .nil pass0 (pa_cons (pv 0) (pa_cons (pv 2) pa_nil)))))))) (fun _ _ _ _ _ => pv 2))), ?_⟩
    obtain ⟨a, ea, la⟩ := kn_members (σ := start ["kin", "session", "at"] [.ref k, .int n]) T N (ev_var (i := 0) rfl)
    have few : (keys M).length < 64 := by rw [len_keys]; have := W.few; omega
    refine s_retL (el_lcG (K := K) (j := 2) (vs := [2]) V.int (topB M n) V.int ea la (by omega) (fun x => rfl) (fun b mb H1 e1 => ?_) (fun b mb _ H1 e1 => ev_var rfl)) fun p H1 hp e h1 => q p H1 hp e h1
    have N1 := N.mono e1
    have c : SpV (spIsTop C) ([.ref k, .int b] ++ []) H1 (.bl (topB M (ses M b) b)) := fun H2 e2 Q q E => ⟨k, M, b, rfl, N1.mono e2, W, mb, q⟩
    refine et_is (et_and (et_test (ev_op (kn_ses T N1 (ev_var rfl) (ev_var rfl) (.inr mb)) (ev_var rfl) (rv_eq rfl))) (fun _ => et_test (ev_call (ea_cons (ev_var rfl) (ea_cons (ev_var rfl) ea_nil)) c))) ?_
    rw [dec_int]
    unfold topB
    by_cases z : ses M b = n
    · subst z
      simp
    · simp [z]
theorem ok_others (F : Fun K "other_tops" "other_tops" sOthers f fd) (T : KT K C) (G : FnOk P w K mg base CX0 2 fT dT ["kin", "session"] (spTops C)) (bG : Binds K dT ["kin", "session"] []) (kG : PySem.W.keepIn K (.ref fT) = true) (mG : mg "tops" = some (.ref fT)) : FnOk P w K mg base CX0 3 f fd ["kin", "session"] (spOthers C) := by
  refine F.ok scOthers (fun vs H Q E h => ?_) (fun cdv A outer s H vs Q E hr h => ?_)
  · obtain ⟨k, M, s, rfl, _⟩ := h
    rfl
  · obtain ⟨k, M, n, rfl, N, W, q⟩ := h
    refine ⟨_, pss_one (ps_ret (pe_lc (own := [("at", 2)]) (g := gName 2) (tt := tTest (tOp rNe (tVar 2) (tVar 1))) (te := tVar 2) rfl scOthers.nd (pi_list (pe_call G hr rfl mG kG bG .nil pass0 (pa_cons (pv 0) (pa_cons (pv 1) pa_nil)))) (blkOk_by (N := ["kin", "session", "at"]) (sc := defScope sOthers) (by decide +kernel))
        (fun _ _ _ _ _ => pg_name (i := 2) scOthers.nd rfl (Or.inl rfl)) (fun _ _ _ _ _ => pts_one (pt_cmpR op_ne (pv 2) (pv 1) (nomark _))) (fun _ _ _ _ _ => pv 2))), ?_⟩
    have few : (tops M n).length ≤ 40000 := by
      have := List.length_filter_le (topB M n) (keys M)
      rw [len_keys] at this
      have := W.few
      unfold tops
      omega
    have c : SpL (spTops C) ([.ref k, .int n] ++ []) H ((tops M n).map V.int) := fun H2 e2 Q q E => ⟨k, M, n, rfl, N.mono e2, W, q⟩
    refine s_retL (el_lcGN (K := K) (j := 2) (vs := [2]) V.int (fun b => !decide (b = n)) V.int (el_call (ea_cons (ev_var rfl) (ea_cons (ev_var rfl) ea_nil)) c) few (fun x => rfl) (fun b mb H1 e1 => ?_) (fun b mb _ H1 e1 => ev_var rfl)) fun p H1 hp e h1 => q p H1 hp e h1
    refine et_is (et_test (ev_op (ev_var rfl) (ev_var rfl) (rv_ne rfl))) ?_
    rw [dec_int]
end
end KB
set_option Elab.async false
set_option linter.all false
set_option maxRecDepth 100000
set_option maxHeartbeats 4000000
namespace Evl
open PySem L2
theorem inV_ints (n : Int) (xs : List Int) : inV (.int n) (xs.map V.int) = decide (n ∈ xs) := by
  unfold inV
  rw [List.any_map, Bool.eq_iff_iff, List.any_eq_true, decide_eq_true_iff]
  constructor
  · rintro ⟨y, m, e⟩
    have e2 : (y == n) = true := e
    rw [← beq_iff_eq.mp e2]
    exact m
  · intro m
    exact ⟨n, m, show (n == n) = true from beq_self_eq_true n⟩
theorem flat_ints (xs : List Int) : (xs.map V.int).all flatV = true := by
  rw [List.all_map, List.all_eq_true]
  exact fun _ _ => rfl
section
variable {K : PySem.W.Frag} {σ : L2.St} {H H' : Hp} {ta tb te tx : TE} {t u : TT} {x y z v : V}
/-- n in xs, n not in xs: a list of ints -/
theorem rv_inI {p : Addr} {xs : List Int} {n : Int} (h : SqL K H p (xs.map V.int)) : RV (rIn K false) (.int n) (.ref p) H (.bl (decide (n ∈ xs))) := by
  have r := rv_isL (x := .int n) h rfl (flat_ints xs)
  rw [inV_ints] at r
  exact r
theorem rv_niI {p : Addr} {xs : List Int} {n : Int} (h : SqL K H p (xs.map V.int)) : RV (rIn K true) (.int n) (.ref p) H (.bl (!decide (n ∈ xs))) := by
  have r := rv_niL (x := .int n) h rfl (flat_ints xs)
  rw [inV_ints] at r
  exact r
theorem rv_ixLast {p : Addr} {xs : List V} {v : V} (h : SqL K H p (xs ++ [v])) : RV (rIxL K) (.ref p) (.int (-1)) H v := rv_ixL h (atI_last xs v)
theorem rv_ix0 {p : Addr} {xs : List V} {v : V} (h : SqL K H p (v :: xs)) : RV (rIxL K) (.ref p) (.int 0) H v := rv_ixL h (atI_nat (j := 0) rfl)
end
end Evl
namespace KB
open PySem PySem.Spec PyProof.Rows L2 Evl
abbrev sAbove : Stmt := topS 10
abbrev sAdopter : Stmt := topS 11
theorem scAbove : FnScope ["kin", "number", "above"] ["kin", "number"] (defScope sAbove) := ⟨rfl, rfl, rfl, by decide +kernel, rfl, by decide +kernel, by decide +kernel⟩
theorem scAdopter : FnScope ["kin", "number", "at"] ["kin", "number"] (defScope sAdopter) := ⟨rfl, rfl, rfl, by decide +kernel, rfl, by decide +kernel, by decide +kernel⟩
def spAbove (C : Addr) : Sp := fun vs H Q _ => ∃ k M n, vs = [.ref k, .int n] ∧ Kn H C k M ∧ WF M ∧ n ∈ keys M ∧ RetL ((above M n).map V.int) H Q
def spAdopter (C : Addr) : Sp := fun vs H Q _ => ∃ k M n, vs = [.ref k, .int n] ∧ Kn H C k M ∧ WF M ∧ n ∈ keys M ∧ RetV (.int (adopter M n)) H Q
section
variable {P : Program} {w : World} {K : PySem.W.Frag} {mg : Str → Option Value} {base : Heap} {f fT : Addr} {fd dT : FuncData} {C : Addr}
theorem ok_above {t0 : Tok} (F : Fun K "all_above" "all_above" sAbove f fd) (T : KT K C) (m1 : mg "FIRST" = some (.int 1 t0)) : FnOk P w K mg base CX0 1 f fd ["kin", "number"] (spAbove C) := by
  refine F.ok scAbove (fun vs H Q E h => ?_) (fun cdv A outer s H vs Q E hr h => ?_)
  · obtain ⟨k, M, n, rfl, _⟩ := h
    rfl
  · obtain ⟨k, M, n, rfl, N, W, m, q⟩ := h
    have hu := hu_of hr
    refine ⟨_, pss_cons (ps_set (i := 2) scAbove.nd rfl (.inl rfl) (pe_lst (pa_cons (pe_dget hu (pe_fld (pv 0) rfl) (pv 1) (fun _ _ => rfl)) pa_nil)))
      (pss_cons (ps_while PassesOwn.never (pt_cmpR op_ne (pe_ix ix_list (pv 2) (pe_un un_neg pe_int) (fun _ _ => rfl)) (pe_glob (v := .int 1) rfl m1 ⟨_, rfl⟩) (nomark _))
        (pss_one (ps_expr (pe_bm PySem.F.plainAttrs_list PySem.F.slot_list_append PySem.F.type_list_append mt_append (pv 2) (pa_cons (pe_dget hu (pe_fld (pv 0) rfl) (pe_ix ix_list (pv 2) (pe_un un_neg pe_int) (fun _ _ => rfl)) (fun _ _ => rfl)) pa_nil)))))
      (pss_one (ps_ret (pv 2)))), ?_⟩
    refine q_asgL (el_lst (ea_cons (kn_par T N (ev_var rfl) (ev_var rfl) m) ea_nil) (by show 1 ≤ 100000; omega)) fun p H1 np e1 g1 => ?_
    refine q_while (fun c σ G => σ = [some (.ref k), some (.int n), some (.ref p)] ∧ Ex H G ∧ ∃ pre a, G p = some (.lst (pre.map V.int ++ [.int a])) ∧ pre.length + c = 65 ∧ ((a = 1 ∧ pre ++ [a] = above M n) ∨ (a ≠ 1 ∧ a ∈ keys M ∧ pre ++ [a] ++ above M a = above M n)))
      65 ⟨rfl, e1, [], up M n, g1, rfl, ?_⟩ ?_
    · have e := above_eq W m
      by_cases z : up M n = 1
      · rw [if_pos z] at e
        exact .inl ⟨z, e.symm⟩
      · rw [if_neg z] at e
        exact .inr ⟨z, W.up_in m z, e.symm⟩
    · rintro c σ G ⟨rfl, eG, pre, a, gp, hc, alt⟩
      have N1 := N.mono eG
      refine ⟨!decide (V.int a = V.int 1), et_test (ev_op (ev_op (ev_var rfl) (ev_un ev_c ru_neg) (rv_ixLast (sq_of gp))) ev_c (rv_ne rfl)), fun hb H2 e2 => ?_, fun hb H2 e2 => ?_⟩
      · have z : a ≠ 1 := fun z => by rw [z] at hb; simp at hb
        obtain ⟨_, ma, ea⟩ := alt.resolve_left fun h => z h.1
        have N2 := N1.mono e2
        have len := above_len W n m
        have ea2 := above_eq W ma
        have lp : pre.length + 1 < 64 := by
          rw [← ea, ea2] at len
          simp only [List.length_append, List.length_cons, List.length_nil] at len
          omega
        refine ⟨fun σ2 H3 => σ2 = [some (.ref k), some (.int n), some (.ref p)] ∧ Ex H H3 ∧ H3 p = some (.lst ((pre ++ [a]).map V.int ++ [.int (up M a)])), ?_, ?_⟩
        · rintro σ2 H3 ⟨rfl, e3, g3⟩
          refine ⟨c - 1, by omega, rfl, e3, pre ++ [a], up M a, g3, by rw [List.length_append]; simp; omega, ?_⟩
          by_cases z2 : up M a = 1
          · rw [if_pos z2] at ea2
            rw [ea2] at ea
            exact .inl ⟨z2, ea⟩
          · rw [if_neg z2] at ea2
            rw [ea2] at ea
            exact .inr ⟨z2, W.up_in ma z2, by simpa using ea⟩
        · refine s_app (e2 _ _ gp) (ev_var rfl) (kn_par T N2 (ev_var rfl) (ev_op (ev_var rfl) (ev_un ev_c ru_neg) (rv_ixLast (sq_of (e2 _ _ gp)))) ma) (by simp; omega) fun H3 e3 => ⟨rfl, Ex.mut ((eG.trans e2).trans e3) np, ?_⟩
          rw [upd_same, List.map_append]
          rfl
      · have z : a = 1 := by
          have h := hb
          rw [dec_int] at h
          simpa using h
        have ea := (alt.resolve_right fun h => h.1 z).2
        refine s_ret (ev_var rfl) fun H3 e3 => q p H3 np ((eG.trans e2).trans e3) ?_
        rw [← ea, List.map_append]
        exact e3 _ _ (e2 _ _ gp)
theorem ok_adopter (F : Fun K "adopter_over" "adopter_over" sAdopter f fd) (T : KT K C) (G : FnOk P w K mg base CX0 1 fT dT ["kin", "number"] (spAbove C)) (bG : Binds K dT ["kin", "number"] []) (kG : PySem.W.keepIn K (.ref fT) = true) (mG : mg "all_above" = some (.ref fT)) : FnOk P w K mg base CX0 2 f fd ["kin", "number"] (spAdopter C) := by
  refine F.ok scAdopter (fun vs H Q E h => ?_) (fun cdv A outer s H vs Q E hr h => ?_)
  · obtain ⟨k, M, n, rfl, _⟩ := h
    rfl
  · obtain ⟨k, M, n, rfl, N, W, m, q⟩ := h
    have hu := hu_of hr
    refine ⟨_, pss_one (ps_ret (pe_ix ix_list (pe_lc (own := [("at", 2)]) (g := gName 2) (tt := tTest (tDGet (tFld K (tVar 0) "adopting") (tVar 2))) (te := tVar 2) rfl scAdopter.nd (pi_list (pe_call G hr rfl mG kG bG .nil pass0 (pa_cons (pv 0) (pa_cons (pv 1) pa_nil)))) (blkOk_by (N := ["kin", "number", "at"]) (sc := defScope sAdopter) (by decide +kernel))
        (fun _ _ _ _ _ => pg_name (i := 2) scAdopter.nd rfl (Or.inl rfl)) (fun _ _ _ _ _ => pts_one (pt_val (pe_dget hu (pe_fld (pv 0) rfl) (pv 2) (fun _ _ => rfl)))) (fun _ _ _ _ _ => pv 2)) pe_int (fun _ _ => rfl))), ?_⟩
    have c : SpL (spAbove C) ([.ref k, .int n] ++ []) H ((above M n).map V.int) := fun H2 e2 Q q E => ⟨k, M, n, rfl, N.mono e2, W, m, q⟩
    have lc := el_lcGN (K := K) (te := tVar 2) (t := tTest (tDGet (tFld K (tVar 0) "adopting") (tVar 2))) (σ := start ["kin", "number", "at"] [.ref k, .int n]) (j := 2) (vs := [2]) V.int (fun a => ado M a) V.int (el_call (E := E0) (ea_cons (ev_var (i := 0) rfl) (ea_cons (ev_var (i := 1) rfl) ea_nil)) c) (by have := above_len W n m; omega) (fun x => rfl)
      (fun b mb H1 e1 => et_test (kn_ado T (N.mono e1) (ev_var rfl) (ev_var rfl) (above_in W n m b mb))) (fun b mb _ H1 e1 => ev_var rfl)
    have hd : ((above M n).filter fun a => ado M a).head? = some (adopter M n) := by
      rw [List.head?_filter]
      unfold adopter
      cases z : (above M n).find? fun a => ado M a with
      | some a => rfl
      | none => exact absurd (ado1 W) (by have := List.find?_eq_none.mp z 1 (above_one W n m); simpa using this)
    obtain ⟨rest, er⟩ : ∃ rest, (above M n).filter (fun a => ado M a) = adopter M n :: rest := by
      cases z : (above M n).filter fun a => ado M a with
      | nil => rw [z] at hd; cases hd
      | cons a l => rw [z] at hd; cases hd; exact ⟨l, rfl⟩
    rw [er] at lc
    exact s_ret (ev_opL1 lc (fun H1 e1 => ev_c) (fun p H1 h1 _ => rv_ix0 (sq_of h1))) q
end
end KB
set_option Elab.async false
set_option linter.all false
set_option maxRecDepth 100000
set_option maxHeartbeats 4000000
namespace KB
open PySem PySem.Spec PyProof.Rows L2 Evl
abbrev sBarsS : Stmt := topS 20
abbrev sBarsG : Stmt := topS 21
abbrev nBarsS : List Str := ["kin", "session", "number", "found", "parent"]
abbrev nBarsG : List Str := ["kin", "group", "owners", "at"]
theorem scBarsS : FnScope nBarsS ["kin", "session", "number"] (defScope sBarsS) := ⟨rfl, rfl, rfl, by decide +kernel, rfl, by decide +kernel, by decide +kernel⟩
theorem scBarsG : FnScope nBarsG ["kin", "group"] (defScope sBarsG) := ⟨rfl, rfl, rfl, by decide +kernel, rfl, by decide +kernel, by decide +kernel⟩
def spBarsS (C : Addr) : Sp := fun vs H Q _ => ∃ k M s n, vs = [.ref k, .int s, .int n] ∧ Kn H C k M ∧ WF M ∧ RetV (.bl (barsS M s n)) H Q
def spBarsG (C : Addr) : Sp := fun vs H Q _ => ∃ k M g, vs = [.ref k, .int g] ∧ Kn H C k M ∧ WF M ∧ g ∈ groups M ∧ RetV (.bl (splitB M g)) H Q
theorem eqv_pair (a b c d : Int) : PyData.eqv (.tuple [.int a, .int b]) (.tuple [.int c, .int d]) = (decide (a = c) && decide (b = d)) := by
  have h : PyData.eqv (.tuple [.int a, .int b]) (.tuple [.int c, .int d]) = ((a == c) && ((b == d) && true)) := by
    simp only [PyData.eqv, PyData.eqvAll]
  rw [h, Bool.and_true]
  rfl
theorem tops_len {M : Fam} (W : WF M) (s : Int) : (tops M s).length ≤ 20 := by
  have := List.length_filter_le (topB M s) (keys M)
  rw [len_keys] at this
  have := W.few
  unfold tops
  omega
theorem owners_ne {M : Fam} {g : Int} (h : g ∈ groups M) : ∃ o rest, owners M g = o :: rest := by
  obtain ⟨r, m, e⟩ := List.mem_map.mp (mem_asc.mp h)
  have : r.s ∈ owners M g := mem_asc.mpr (List.mem_map_of_mem (f := fun r : Rw => r.s) (List.mem_filter.mpr ⟨m, decide_eq_true e⟩))
  cases z : owners M g with
  | nil => rw [z] at this; cases this
  | cons o l => exact ⟨o, l, rfl⟩
theorem owners_eq {M : Fam} (W : WF M) (g : Int) : ((keys M).filter fun n => decide (grp M n = g)).map (ses M) = (M.filter fun r => decide (r.g = g)).map (·.s) := by
  unfold keys
  rw [List.filter_map, List.map_map]
  have e : M.filter ((fun n => decide (grp M n = g)) ∘ fun r => r.n) = M.filter fun r => decide (r.g = g) := List.filter_congr fun r m => by
    show decide (grp M r.n = g) = _
    rw [W.grp m]
  rw [e]
  exact List.map_congr_left fun r m => W.ses (List.mem_filter.mp m).1
section
variable {P : Program} {w : World} {K : PySem.W.Frag} {mg : Str → Option Value} {base : Heap} {f fL fT fA fS : Addr} {fd dL dT dA dS : FuncData} {C : Addr}
theorem ok_barsS {t0 : Tok} (F : Fun K "bars_session" "bars_session" sBarsS f fd) (T : KT K C) (m1 : mg "FIRST" = some (.int 1 t0))
    (GL : FnOk P w K mg base CX0 1 fL dL ["kin", "session"] (spIsLed C)) (bL : Binds K dL ["kin", "session"] []) (kL : PySem.W.keepIn K (.ref fL) = true) (mL : mg "is_led" = some (.ref fL))
    (GT : FnOk P w K mg base CX0 2 fT dT ["kin", "session"] (spTops C)) (bT : Binds K dT ["kin", "session"] []) (kT : PySem.W.keepIn K (.ref fT) = true) (mT : mg "tops" = some (.ref fT))
    (GA : FnOk P w K mg base CX0 2 fA dA ["kin", "number"] (spAdopter C)) (bA : Binds K dA ["kin", "number"] []) (kA : PySem.W.keepIn K (.ref fA) = true) (mA : mg "adopter_over" = some (.ref fA)) :
    FnOk P w K mg base CX0 3 f fd ["kin", "session", "number"] (spBarsS C) := by
  refine F.ok scBarsS (fun vs H Q E h => ?_) (fun cdv A outer s H vs Q E hr h => ?_)
  · obtain ⟨k, M, s, n, rfl, _⟩ := h
    rfl
  · obtain ⟨k, M, s, n, rfl, N, W, q⟩ := h
    have hu := hu_of hr
    have h1 : Room 1 _ := hr.mono (by decide)
    refine ⟨_, pss_cons (ps_if (pt_val (pe_call GL h1 rfl mL kL bL .nil pass0 (pa_cons (pv 0) (pa_cons (pv 1) pa_nil))))
        (pss_cons (ps_if (pt_cmpR op_eq (pv 2) (pv 1) (nomark _)) (pss_one (ps_ret (pe_cmpR (op_neD hr.units) (pe_tup (pa_cons (pe_dget hu (pe_fld (pv 0) rfl) (pv 2) (fun _ _ => rfl)) (pa_cons (pe_dget hu (pe_fld (pv 0) rfl) (pv 2) (fun _ _ => rfl)) pa_nil))) (pe_tup (pa_cons (pv 1) (pa_cons (pv 1) pa_nil))) (nomark _)))) pss_nil)
        (pss_one (ps_ret (pe_and (pe_cmpR op_in_seq (pv 2) (pe_call GT hr rfl mT kT bT .nil pass0 (pa_cons (pv 0) (pa_cons (pv 1) pa_nil))) rfl) (pe_one (pe_cmpR op_ne (pe_dget hu (pe_fld (pv 0) rfl) (pv 2) (fun _ _ => rfl)) (pe_call GA hr rfl mA kA bA .nil pass0 (pa_cons (pv 0) (pa_cons (pv 1) pa_nil))) (nomark _))))))) pss_nil)
      (pss_cons (ps_set (i := 3) scBarsS.nd rfl (.inl rfl) (pe_call GT hr rfl mT kT bT .nil pass0 (pa_cons (pv 0) (pa_cons (pv 1) pa_nil))))
      (pss_cons (ps_if (pt_cmpR op_notIn_seq (pv 2) (pv 3) rfl) (pss_one (ps_ret pe_bl)) pss_nil)
      (pss_cons (ps_if (pt_cmpR op_eq (pv 1) (pe_glob (v := .int 1) rfl m1 ⟨_, rfl⟩) (nomark _)) (pss_one (ps_ret (pe_cmpR op_ne (pv 2) (pe_fld (pv 0) rfl) (nomark _)))) pss_nil)
      (pss_cons (ps_set (i := 4) scBarsS.nd rfl (.inl rfl) (pe_dget hu (pe_fld (pv 0) rfl) (pv 2) (fun _ _ => rfl)))
      (pss_one (ps_ret (pe_or (pe_cmpR op_ne (pv 4) (pe_dget hu (pe_fld (pv 0) rfl) (pe_ix ix_list (pv 3) pe_int (fun _ _ => rfl)) (fun _ _ => rfl)) (nomark _)) (pe_one (pe_not (pe_dget hu (pe_fld (pv 0) rfl) (pv 4) (fun _ _ => rfl))))))))))), ?_⟩
    have cL : ∀ H', Ex H H' → SpV (spIsLed C) ([.ref k, .int s] ++ []) H' (.bl (decide (s ∈ keys M))) := fun H' e H2 e2 Q q E => ⟨k, M, s, rfl, N.mono (e.trans e2), q⟩
    have cT : ∀ H', Ex H H' → SpL (spTops C) ([.ref k, .int s] ++ []) H' ((tops M s).map V.int) := fun H' e H2 e2 Q q E => ⟨k, M, s, rfl, N.mono (e.trans e2), W, q⟩
    refine q_if (et_test (ev_call (ea_cons (ev_var rfl) (ea_cons (ev_var rfl) ea_nil)) (cL H (Ex.refl H)))) (fun hb H1 e1 => ?_) (fun hb H1 e1 => ?_)
    · have ls : s ∈ keys M := of_decide_eq_true hb
      have N1 := N.mono e1
      refine q_when (et_test (ev_op (ev_var rfl) (ev_var rfl) (rv_eq rfl))) (fun h2 H2 e2 => ?_) (fun h2 H2 e2 => ?_)
      · rw [dec_int] at h2
        have en : n = s := of_decide_eq_true h2
        subst en
        have N2 := N1.mono e2
        have v : (V.bl (!PyData.eqv (.tuple [.int (ses M n), .int (grp M n)]) (.tuple [.int n, .int n]))) = .bl (barsS M n n) := by
          rw [eqv_pair]
          unfold barsS
          rw [if_pos ls, if_pos rfl]
        refine s_ret (ev_is (ev_opUU (eu_tup (ea_cons (kn_ses T N2 (ev_var rfl) (ev_var rfl) (.inr ls)) (ea_cons (kn_grp T N2 (ev_var rfl) (ev_var rfl) (.inr ls)) ea_nil)) (by show 2 ≤ 100000; omega)) (eu_tup (ea_cons (ev_var rfl) (ea_cons (ev_var rfl) ea_nil)) (by show 2 ≤ 100000; omega))
          (fun p r H3 hp hq e3 => rv_val fun H4 e4 Q qq => ⟨_, _, .tup (st_of (e4 _ _ hp)) (.cons (.int _) (.cons (.int _) .nil)), .tup (st_of (e4 _ _ hq)) (.cons (.int _) (.cons (.int _) .nil)), rfl, rfl, qq⟩)) v) fun H3 e3 => q H3 ((e1.trans e2).trans e3)
      · rw [dec_int] at h2
        have ne : n ≠ s := of_decide_eq_false h2
        have N2 := N1.mono e2
        have cA : SpV (spAdopter C) ([.ref k, .int s] ++ []) H2 (.int (adopter M s)) := fun H3 e3 Q q E => ⟨k, M, s, rfl, N2.mono e3, W, ls, q⟩
        have v : (V.bl (decide (n ∈ tops M s) && !decide (V.int (up M n) = V.int (adopter M s)))) = .bl (barsS M s n) := by
          rw [dec_int]
          unfold barsS
          rw [if_pos ls, if_neg ne]
        refine s_ret (ev_is (ev_andV (ev_opL (ev_var rfl) (el_call (ea_cons (ev_var rfl) (ea_cons (ev_var rfl) ea_nil)) (cT H2 (e1.trans e2))) (fun p H3 hp e3 => rv_inI (sq_of hp))) (fun ht => ?_)) v) fun H3 e3 => q H3 ((e1.trans e2).trans e3)
        have mn := (mem_tops.mp (of_decide_eq_true ht)).1
        exact ev_op (kn_par T N2 (ev_var rfl) (ev_var rfl) mn) (ev_call (ea_cons (ev_var rfl) (ea_cons (ev_var rfl) ea_nil)) cA) (rv_ne rfl)
    · have ls : s ∉ keys M := of_decide_eq_false hb
      refine q_asgL (el_call (ea_cons (ev_var rfl) (ea_cons (ev_var rfl) ea_nil)) (cT H1 e1)) fun p H2 np e2 g2 => ?_
      refine q_when (et_test (ev_op (ev_var rfl) (ev_var rfl) (rv_niI (sq_of g2)))) (fun h3 H3 e3 => ?_) (fun h3 H3 e3 => ?_)
      · have nt : n ∉ tops M s := by simpa using h3
        have v : (V.bl false) = .bl (barsS M s n) := by
          unfold barsS
          rw [if_neg ls, if_neg nt]
        exact s_ret (ev_is ev_c v) fun H4 e4 => q H4 (((e1.trans e2).trans e3).trans e4)
      · have nt : n ∈ tops M s := by simpa using h3
        have mn := (mem_tops.mp nt).1
        have N3 := N.mono ((e1.trans e2).trans e3)
        refine q_when (et_test (ev_op (ev_var rfl) ev_c (rv_eq rfl))) (fun h4 H4 e4 => ?_) (fun h4 H4 e4 => ?_)
        · rw [dec_int] at h4
          have es : s = 1 := of_decide_eq_true h4
          have N4 := N3.mono e4
          obtain ⟨root, er, _, hroot⟩ := kn_root (ta := tVar 0) (σ := [some (.ref k), some (.int s), some (.int n), some (.ref p), none]) T N4 (ev_var rfl)
          have v : (V.bl (!decide (V.int n = V.int root))) = .bl (barsS M s n) := by
            rw [dec_int, hroot n mn]
            unfold barsS
            rw [if_neg ls, if_pos nt, if_pos es]
          exact s_ret (ev_is (ev_op (ev_var rfl) er (rv_ne rfl)) v) fun H5 e5 => q H5 ((((e1.trans e2).trans e3).trans e4).trans e5)
        · rw [dec_int] at h4
          have es : s ≠ 1 := of_decide_eq_false h4
          have N4 := N3.mono e4
          obtain ⟨o, rest, eo⟩ : ∃ o rest, tops M s = o :: rest := by
            cases z : tops M s with
            | nil => rw [z] at nt; cases nt
            | cons o l => exact ⟨o, l, rfl⟩
          have mo : o ∈ keys M := (mem_tops.mp (by rw [eo]; exact List.mem_cons_self)).1
          have g4 := e4 _ _ (e3 _ _ g2)
          rw [eo] at g4
          refine q_asg (kn_par T N4 (ev_var rfl) (ev_var rfl) mn) fun H5 e5 => ?_
          have N5 := N4.mono e5
          have mu : up M n = 1 ∨ up M n ∈ keys M := by
            by_cases z : up M n = 1
            · exact .inl z
            · exact .inr (W.up_in mn z)
          have v : (V.bl (!decide (V.int (up M n) = V.int (up M o)) || !ado M (up M n))) = .bl (barsS M s n) := by
            rw [dec_int]
            unfold barsS
            rw [if_neg ls, if_pos nt, if_neg es, eo]
            rfl
          refine s_ret (ev_is (ev_orV (ev_op (ev_var rfl) (kn_par T N5 (ev_var rfl) (ev_op (ev_var rfl) ev_c (rv_ix0 (sq_of (e5 _ _ g4)))) mo) (rv_ne rfl)) (fun _ => ev_notV (kn_ado T N5 (ev_var rfl) (ev_var rfl) mu))) v) fun H6 e6 => q H6 (((((e1.trans e2).trans e3).trans e4).trans e5).trans e6)
theorem ok_barsG {t0 : Tok} (F : Fun K "bars_group" "bars_group" sBarsG f fd) (T : KT K C) (m1 : mg "FIRST" = some (.int 1 t0)) (mo : mg "sorted" = none) (ms : mg "set" = none) (ml : mg "len" = none)
    (GS : FnOk P w K mg base CX0 1 fS dS ["kin"] (spSessions C)) (bS : Binds K dS ["kin"] []) (kS : PySem.W.keepIn K (.ref fS) = true) (mS : mg "sessions_of" = some (.ref fS)) :
    FnOk P w K mg base CX0 2 f fd ["kin", "group"] (spBarsG C) := by
  refine F.ok scBarsG (fun vs H Q E h => ?_) (fun cdv A outer s H vs Q E hr h => ?_)
  · obtain ⟨k, M, g, rfl, _⟩ := h
    rfl
  · obtain ⟨k, M, g, rfl, N, W, hg, q⟩ := h
    have hu := hu_of hr
    refine ⟨_, pss_cons (ps_set (i := 2) scBarsG.nd rfl (.inl rfl) (pe_callB (cr_sortedSet rfl) (by rfl) mo (by decide +kernel) (pa_cons (pe_callTy (cr_setL rfl) (by rfl) ms (by decide +kernel) (pa_cons
        (pe_lc (own := [("at", 3)]) (g := gName 3) (tt := tTest (tOp rEq (tDGet (tFld K (tVar 0) "groups") (tVar 3)) (tVar 1))) (te := tDGet (tFld K (tVar 0) "sessions") (tVar 3)) rfl scBarsG.nd (pi_list (pe_fld (pv 0) rfl)) (blkOk_by (N := nBarsG) (sc := defScope sBarsG) (by decide +kernel))
          (fun _ _ _ _ _ => pg_name (i := 3) scBarsG.nd rfl (Or.inl rfl)) (fun _ _ _ _ _ => pts_one (pt_cmpR op_eq (pe_dget hu (pe_fld (pv 0) rfl) (pv 3) (fun _ _ => rfl)) (pv 1) (nomark _))) (fun _ _ _ _ _ => pe_dget hu (pe_fld (pv 0) rfl) (pv 3) (fun _ _ => rfl))) pa_nil)) pa_nil)))
      (pss_cons (ps_if (pt_cmpR op_gt (pe_callB call_len_seq (by rfl) ml PySem.boot_len (pa_cons (pv 2) pa_nil)) pe_int (nomark _)) (pss_one (ps_ret pe_bl)) pss_nil)
      (pss_cons (ps_if (PW.pt (pw_and (pt_cmp (pc_din hu (pv 1) (pe_fld (pv 0) rfl))) (pw_and1 (pt_cmpR op_ne (pe_dget hu (pe_fld (pv 0) rfl) (pv 1) (fun _ _ => rfl)) (pe_ix ix_list (pv 2) pe_int (fun _ _ => rfl)) (nomark _))))) (pss_one (ps_ret pe_bl)) pss_nil)
      (pss_one (ps_ret (pe_and (pe_or (pe_cmpR op_eq (pv 1) (pe_glob (v := .int 1) rfl m1 ⟨_, rfl⟩) (nomark _)) (pe_one (pe_cmpR op_in_seq (pv 1) (pe_call GS hr rfl mS kS bS .nil pass0 (pa_cons (pv 0) pa_nil)) rfl))) (pe_one (pe_cmpR op_ne (pv 1) (pe_ix ix_list (pv 2) pe_int (fun _ _ => rfl)) (nomark _)))))))), ?_⟩
    obtain ⟨a, ea, la⟩ := kn_members (σ := start nBarsG [.ref k, .int g]) T N (ev_var (i := 0) rfl)
    have few : (keys M).length < 64 := by rw [len_keys]; have := W.few; omega
    have lc := el_lcG (K := K) (te := tDGet (tFld K (tVar 0) "sessions") (tVar 3)) (t := tTest (tOp rEq (tDGet (tFld K (tVar 0) "groups") (tVar 3)) (tVar 1))) (j := 3) (vs := [3]) V.int (fun n => decide (grp M n = g)) (fun n => .int (ses M n)) ea la (by omega) (fun x => rfl)
      (fun b mb H1 e1 => et_is (et_test (ev_op (kn_grp T (N.mono e1) (ev_var rfl) (ev_var rfl) (.inr mb)) (ev_var rfl) (rv_eq rfl))) (dec_int _ _)) (fun b mb _ H1 e1 => kn_ses T (N.mono e1) (ev_var rfl) (ev_var rfl) (.inr mb))
    have e2 : ((keys M).filter fun n => decide (grp M n = g)).map (fun n => V.int (ses M n)) = ((M.filter fun r => decide (r.g = g)).map (·.s)).map V.int := by
      rw [← owners_eq W, List.map_map]
      rfl
    rw [e2] at lc
    have few2 : ((M.filter fun r => decide (r.g = g)).map (·.s)).length < 64 := by
      rw [List.length_map]
      have := List.length_filter_le (fun r : Rw => decide (r.g = g)) M
      have := W.few
      omega
    refine q_asgL (el_sset lc few2) fun p H1 np e1 g1 => ?_
    obtain ⟨o, rest, eo⟩ := owners_ne hg
    have g1' : H1 p = some (.lst ((owners M g).map V.int)) := g1
    have N1 := N.mono e1
    have hd : (owners M g).headD 1 = o := by rw [eo]; rfl
    refine q_when (et_test (ev_op (ev_len (K := K) (ev_var rfl) (sq_of g1')) ev_c rv_I0)) (fun h2 H2 e2 => ?_) (fun h2 H2 e2 => ?_)
    · have v : (V.bl true) = .bl (splitB M g) := by
        unfold splitB
        have z : (decide (1 < (owners M g).length)) = true := by
          have := of_decide_eq_true h2
          rw [List.length_map] at this
          exact decide_eq_true (by omega)
        rw [z]
        rfl
      exact s_ret (ev_is ev_c v) fun H3 e3 => q H3 ((e1.trans e2).trans e3)
    · have z1 : (decide (1 < (owners M g).length)) = false := by
        have := of_decide_eq_false h2
        rw [List.length_map] at this
        exact decide_eq_false (by omega)
      have N2 := N1.mono e2
      have g2 := e2 _ _ g1'
      rw [eo] at g2
      refine q_when (et_and (et_test (kn_in T N2 (ev_var rfl) (ev_var rfl))) (fun hm => et_test (ev_op (kn_ses T N2 (ev_var rfl) (ev_var rfl) (.inr (of_decide_eq_true hm))) (ev_op (ev_var rfl) ev_c (rv_ix0 (sq_of g2))) (rv_ne rfl)))) (fun h3 H3 e3 => ?_) (fun h3 H3 e3 => ?_)
      · rw [dec_int] at h3
        have v : (V.bl true) = .bl (splitB M g) := by
          unfold splitB
          rw [hd, h3, Bool.or_true]
          rfl
        exact s_ret (ev_is ev_c v) fun H4 e4 => q H4 (((e1.trans e2).trans e3).trans e4)
      · rw [dec_int] at h3
        have N3 := N2.mono e3
        have cS : SpL (spSessions C) ([.ref k] ++ []) H3 ((sessions M).map V.int) := fun H4 e4 Q q E => ⟨k, M, rfl, N3.mono e4, W, q⟩
        have v : (V.bl ((decide (V.int g = V.int 1) || decide (g ∈ sessions M)) && !decide (V.int g = V.int o))) = .bl (splitB M g) := by
          unfold splitB
          rw [hd, h3, z1, dec_int, dec_int]
          have : decide (g ∈ sessions M) = decide (g ∈ M.map (·.s)) := by
            rw [Bool.eq_iff_iff, decide_eq_true_iff, decide_eq_true_iff]
            exact mem_asc
          rw [this]
          rfl
        refine s_ret (ev_is (ev_andV (ev_orV (ev_op (ev_var rfl) ev_c (rv_eq rfl)) (fun _ => ev_opL (ev_var rfl) (el_call (ea_cons (ev_var rfl) ea_nil) cS) (fun p H4 hp e4 => rv_inI (sq_of hp)))) (fun _ => ev_op (ev_var rfl) (ev_op (ev_var rfl) ev_c (rv_ix0 (sq_of (e3 _ _ g2)))) (rv_ne rfl))) v) fun H4 e4 => q H4 (((e1.trans e2).trans e3).trans e4)
end
end KB
set_option Elab.async false
set_option linter.all false
namespace KB
theorem split_at {α : Type} {xs : List α} {i : Nat} {x : α} (h : xs[i]? = some x) : xs = xs.take i ++ x :: xs.drop (i + 1) := by
  obtain ⟨hi, e⟩ := List.getElem?_eq_some_iff.mp h
  rw [← e, List.getElem_cons_drop hi, List.take_append_drop]
theorem filter_none {α : Type} {p : α → Bool} {l : List α} (h : ∀ x ∈ l, p x = false) : l.filter p = [] := List.filter_eq_nil_iff.mpr fun x m => by rw [h x m]; exact Bool.false_ne_true
theorem head_filter {α : Type} {p : α → Bool} {xs : List α} {i : Nat} {x : α} (h : xs[i]? = some x) (h0 : ∀ y ∈ xs.take i, p y = false) (h1 : p x = true) : (xs.filter p).head? = some x := by
  rw [split_at h, List.filter_append, filter_none h0, List.filter_cons, if_pos h1]
  rfl
theorem head_flat {α β : Type} {f : α → List β} {xs : List α} {i : Nat} {x : α} (h : xs[i]? = some x) (h0 : ∀ y ∈ xs.take i, f y = []) {z : β} (h1 : (f x).head? = some z) : (xs.flatMap f).head? = some z := by
  have e : (xs.take i).flatMap f = [] := List.flatMap_eq_nil_iff.mpr h0
  rw [split_at h, List.flatMap_append, e, List.flatMap_cons, List.nil_append, List.head?_append, h1]
  rfl
theorem nodup_len : ∀ {l m : List Int}, l.Nodup → (∀ a ∈ l, a ∈ m) → l.length ≤ m.length
  | [], _, _, _ => Nat.zero_le _
  | a :: l, m, nd, h => by
    rw [List.nodup_cons] at nd
    have ma : a ∈ m := h a List.mem_cons_self
    have len := List.length_erase_of_mem ma
    have pos : 0 < m.length := List.length_pos_of_mem ma
    have := nodup_len (l := l) (m := m.erase a) nd.2 fun b mb => (List.mem_erase_of_ne (fun z : b = a => nd.1 (by rw [← z]; exact mb))).mpr (h b (List.mem_cons_of_mem _ mb))
    simp only [List.length_cons]
    omega
theorem first_idx {x : Int} : ∀ {l : List Int}, x ∈ l → ∃ i : Nat, l[i]? = some x ∧ ∀ j, j < i → ∀ y, l[j]? = some y → y ≠ x
  | [], h => nomatch h
  | a :: l, h => by
    by_cases z : a = x
    · exact ⟨0, by rw [z]; rfl, fun j hj => absurd hj (Nat.not_lt_zero _)⟩
    · obtain ⟨i, h1, h2⟩ := first_idx (l := l) ((List.mem_cons.mp h).resolve_left fun e => z e.symm)
      refine ⟨i + 1, by simpa using h1, fun j hj y ey => ?_⟩
      cases j with
      | zero => simp at ey; rw [← ey]; exact z
      | succ j => exact h2 j (by omega) y (by simpa using ey)
section
variable {M : Fam} {n : Int}
theorem need_in (W : WF M) {x : Int} (h : need M n = some x) : x ∈ keys M := by
  unfold need at h
  split at h
  · rename_i c
    have m := List.mem_of_find?_eq_some h
    have p := List.find?_some h
    simp at p
    rcases List.mem_cons.mp m with m | m
    · rw [m]; exact c.1
    · exact (above_in W _ c.1 x m).resolve_left p.1
  · cases h
theorem need_out (W : WF M) (h : n ∉ keys M) : need M n = none := by
  unfold need
  rw [if_neg]
  intro c
  have : ses M n = 1 := by unfold ses; rw [look_none h]; rfl
  rw [this] at c
  exact W.one c.1
/-- the line from s upwards -/
theorem line_up (W : WF M) : ∀ s ∈ keys M, ∀ (i : Nat) (b : Int), (above M s)[i]? = some b → ∃ a, (s :: above M s)[i]? = some a ∧ a ≠ 1 ∧ up M a = b := by
  refine up_ind W (fun s m z i b h => ?_) (fun s m z ih i b h => ?_)
  · rw [above_eq W m, if_pos z] at h
    cases i with
    | zero =>
      exact ⟨s, rfl, fun e => W.one (e ▸ m), by simpa using h⟩
    | succ i => simp at h
  · rw [above_eq W m, if_neg z] at h
    cases i with
    | zero => exact ⟨s, rfl, fun e => W.one (e ▸ m), by simpa using h⟩
    | succ i =>
      obtain ⟨a, e1, e2⟩ := ih i b (by simpa using h)
      refine ⟨a, ?_, e2⟩
      rw [above_eq W m, if_neg z]
      simpa using e1
theorem find_at {α : Type} {p : α → Bool} {xs : List α} {i : Nat} {x : α} (h : xs[i]? = some x) (h1 : p x = true) (h0 : ∀ j, j < i → ∀ y, xs[j]? = some y → p y = false) : xs.find? p = some x := by
  rw [split_at h, List.find?_append]
  have e : (xs.take i).find? p = none := List.find?_eq_none.mpr fun y m => by
    obtain ⟨j, hj, e⟩ := List.getElem_of_mem m
    rw [List.length_take] at hj
    have e2 : xs[j]? = some y := by
      rw [List.getElem_take] at e
      rw [List.getElem?_eq_getElem (by omega), e]
    rw [h0 j (by omega) y e2]
    exact Bool.false_ne_true
  rw [e, List.find?_cons, h1]
  rfl
/-- what the program finds in the line -/
theorem need_line (W : WF M) (ls : ses M n ∈ keys M) (ne : ses M n ≠ n) (ht : topB M (ses M n) n = true) {i : Nat} (hi : (above M (ses M n))[i]? = some (up M n)) (h0 : ∀ j, j < i → ∀ y, (above M (ses M n))[j]? = some y → y ≠ up M n) :
    ∃ a, (ses M n :: above M (ses M n))[i]? = some a ∧ need M n = some a := by
  obtain ⟨a, e1, e2, e3⟩ := line_up W _ ls i _ hi
  refine ⟨a, e1, ?_⟩
  unfold need
  rw [if_pos ⟨ls, ne, ht⟩]
  refine find_at e1 (by simp [e2, e3]) fun j hj y ey => ?_
  have lt : j < (above M (ses M n)).length := by
    have := (List.getElem?_eq_some_iff.mp hi).1
    omega
  obtain ⟨a', f1, f2, f3⟩ := line_up W _ ls j _ (List.getElem?_eq_getElem lt)
  rw [ey] at f1
  cases f1
  have := h0 j hj _ (List.getElem?_eq_getElem lt)
  rw [← f3] at this
  simp [this]
theorem need_no (W : WF M) (ls : ses M n ∈ keys M) (h : up M n ∉ above M (ses M n)) : need M n = none := by
  unfold need
  split
  · refine List.find?_eq_none.mpr fun a m c => ?_
    simp at c
    have ma : a ∈ keys M := by
      rcases List.mem_cons.mp m with m | m
      · rw [m]; exact ls
      · exact (above_in W _ ls a m).resolve_left c.1
    -- up a is above the leader
    have key : ∀ s ∈ keys M, ∀ a ∈ keys M, a ∈ s :: above M s → up M a ∈ above M s := by
      refine up_ind W (fun s ms z a ma m => ?_) (fun s ms z ih a ma m => ?_)
      · rw [above_eq W ms, if_pos z] at m ⊢
        rcases List.mem_cons.mp m with m | m
        · rw [m]; exact List.mem_cons_self
        · have e := (List.mem_singleton.mp m).trans z
          exact absurd (e ▸ ma) W.one
      · rw [above_eq W ms, if_neg z] at m ⊢
        rcases List.mem_cons.mp m with m | m
        · rw [m]; exact List.mem_cons_self
        · exact List.mem_cons_of_mem _ (ih a ma m)
    exact h (c.2 ▸ key _ ls a ma m)
  · rfl
/-- rings, step by step -/
theorem ring_out (W : WF M) (h : n ∉ keys M) : ring M n = none := by
  unfold ring
  rw [need_out W h]
  have e : (ringGo M 64 [n] none).2 = none := rfl
  dsimp only
  rw [if_neg]
  rw [e]
  exact fun c => nomatch c.1
end
def firstS (M : Fam) : Option Rs := ((sessions M).flatMap fun s => ((keys M).filter (barsS M s)).map (Rs.session s)).head?
def firstG (M : Fam) : Option Rs := (((groups M).filter (splitB M)).map Rs.group).head?
def firstR (M : Fam) : Option Rs := (((keys M).filterMap (ring M)).map Rs.ring).head?
def barM (M : Fam) : Option Rs := (reasons M).head?
theorem barM_eq (M : Fam) : barM M = match firstS M with | some r => some r | none => match firstG M with | some r => some r | none => firstR M := by
  unfold barM reasons firstS firstG firstR
  rw [List.head?_append, List.head?_append]
  cases (List.flatMap (fun s => List.map (Rs.session s) (List.filter (barsS M s) (keys M))) (sessions M)).head? with
  | some r => rfl
  | none =>
    cases ((List.map Rs.group (List.filter (splitB M) (groups M))).head?) with
    | some r => rfl
    | none => rfl
end KB
set_option Elab.async false
set_option linter.all false
set_option maxRecDepth 100000
set_option maxHeartbeats 4000000
namespace KB
open PySem PySem.Spec PyProof.Rows L2 Evl
theorem same_new {H : Hp} {p : Addr} {o : HO} (h : H p = none) : Same H (upd H p o) := fun b x e => by
  rw [upd_ne (ne_of_none e h)]
  exact e
theorem same_mut {H H' : Hp} {p : Addr} {o : HO} (s : Same H H') (h : H p = none) : Same H (upd H' p o) := fun b x e => by
  rw [upd_ne (ne_of_none e h)]
  exact s b x e
mutual
/-- data at any depth, all of it tracked -/
inductive Dx (H : Hp) : V → PyData → Prop
  | non : Dx H .non .none
  | bl (b : Bool) : Dx H (.bl b) (.bool b)
  | int (i : Int) : Dx H (.int i) (.int i)
  | str (x : Str) : Dx H (.str x) (.str x)
  | lst {a : Addr} {xs : List V} {ds : List PyData} : H a = some (.lst xs) → DxAll H xs ds → Dx H (.ref a) (.list ds)
  | tup {a : Addr} {xs : List V} {ds : List PyData} : H a = some (.tup xs) → DxAll H xs ds → Dx H (.ref a) (.tuple ds)
inductive DxAll (H : Hp) : List V → List PyData → Prop
  | nil : DxAll H [] []
  | cons {v : V} {vs : List V} {d : PyData} {ds : List PyData} : Dx H v d → DxAll H vs ds → DxAll H (v :: vs) (d :: ds)
end
mutual
theorem Dx.mono {H H' : Hp} (s : Same H H') : ∀ {v : V} {d : PyData}, Dx H v d → Dx H' v d
  | _, _, .non => .non
  | _, _, .bl b => .bl b
  | _, _, .int i => .int i
  | _, _, .str x => .str x
  | _, _, .lst e h => .lst (s _ _ e) (DxAll.mono s h)
  | _, _, .tup e h => .tup (s _ _ e) (DxAll.mono s h)
theorem DxAll.mono {H H' : Hp} (s : Same H H') : ∀ {vs : List V} {ds : List PyData}, DxAll H vs ds → DxAll H' vs ds
  | _, _, .nil => .nil
  | _, _, .cons h t => .cons (Dx.mono s h) (DxAll.mono s t)
end
theorem DxAll.length {H : Hp} : ∀ {vs : List V} {ds : List PyData}, DxAll H vs ds → vs.length = ds.length
  | _, _, .nil => rfl
  | _, _, .cons _ t => by rw [List.length_cons, List.length_cons, DxAll.length t]
theorem DxAll.get {H : Hp} : ∀ {vs : List V} {ds : List PyData} {i : Nat} {v : V}, DxAll H vs ds → vs[i]? = some v → ∃ d, ds[i]? = some d ∧ Dx H v d
  | _, _, _, _, .nil, e => by simp at e
  | _, _, 0, _, .cons h _, e => by
    simp at e
    subst e
    exact ⟨_, rfl, h⟩
  | _, _, i + 1, v, .cons _ t, e => by
    obtain ⟨d, h1, h2⟩ := DxAll.get (i := i) (v := v) t (by simpa using e)
    exact ⟨d, by simpa using h1, h2⟩
theorem DxAll.snoc {H : Hp} {v : V} {d : PyData} (h : Dx H v d) : ∀ {vs : List V} {ds : List PyData}, DxAll H vs ds → DxAll H (vs ++ [v]) (ds ++ [d])
  | _, _, .nil => .cons h .nil
  | _, _, .cons h1 t => .cons h1 (DxAll.snoc h t)
/-- of nesting below n -/
def Sh : Nat → PyData → Prop
  | 0, _ => False
  | n + 1, .list ds => ds.length ≤ 1000 ∧ ∀ d ∈ ds, Sh n d
  | n + 1, .tuple ds => ds.length ≤ 1000 ∧ ∀ d ∈ ds, Sh n d
  | _ + 1, .dict _ => False
  | _ + 1, _ => True
/-- the heap without the objects of M -/
def mask (H : Hp) (M : List Addr) : Hp := fun b => if b ∈ M then none else H b
theorem mask_nil (H : Hp) : mask H [] = H := funext fun b => if_neg List.not_mem_nil
theorem mask_at {H : Hp} {M : List Addr} {a : Addr} {o : HO} (e : mask H M a = some o) : H a = some o ∧ a ∉ M := by
  unfold mask at e
  by_cases h : a ∈ M
  · rw [if_pos h] at e
    cases e
  · rw [if_neg h] at e
    exact ⟨e, h⟩
theorem mask_of {H : Hp} {M : List Addr} {a : Addr} {o : HO} (e : H a = some o) (h : a ∉ M) : mask H M a = some o := (if_neg h).trans e
theorem mask_same {H H' : Hp} {M M' : List Addr} (s : Same H H') (h : ∀ b o, H b = some o → b ∈ M' → b ∈ M) : Same (mask H M) (mask H' M') := fun b o e => by
  obtain ⟨e1, e2⟩ := mask_at e
  exact mask_of (s b o e1) fun z => e2 (h b o e1 z)
theorem mask_upd {H : Hp} {M : List Addr} {a : Addr} {o : HO} (h : a ∈ M) : mask (upd H a o) M = mask H M := funext fun b => by
  unfold mask
  by_cases z : b ∈ M
  · rw [if_pos z, if_pos z]
  · have ne : b ≠ a := fun e => z (e ▸ h)
    rw [if_neg z, if_neg z, upd_ne ne]
theorem dx_ints {H : Hp} : ∀ (ns : List Int), DxAll H (ns.map V.int) (ns.map PyData.int)
  | [] => .nil
  | n :: ns => .cons (.int n) (dx_ints ns)
/-- told a datum -/
def RetD (d : PyData) (H : Hp) (Q : VK) : Prop := ∀ v H2, Ex H H2 → Dx H2 v d → Q v H2
def EvX (te : TE) (σ : L2.St) (H : Hp) (d : PyData) : Prop := ∀ H1, Ex H H1 → ∀ Q : VK, (∀ v H2, Ex H1 H2 → Dx H2 v d → Q v H2) → te σ H1 Q
def SpX (sp : Sp) (vs : List V) (H : Hp) (d : PyData) : Prop := ∀ H1, Ex H H1 → ∀ Q : VK, (∀ v H2, Ex H1 H2 → Dx H2 v d → Q v H2) → ∀ E : XK, sp vs H1 Q E
section
variable {K : PySem.W.Frag} {σ : L2.St} {H H' : Hp} {ta tb te tx : TE} {tz : TS} {D : Ends}
theorem ex_call {sp : Sp} {dvs vs : List V} {d : PyData} {E : XK} {ta : TA} (h : EvA ta σ H vs) (hs : SpX sp (vs ++ dvs) H d) : EvX (tCall sp dvs E ta) σ H d := fun H1 e Q q =>
  h H1 e _ fun H2 e2 => hs H2 (e.trans e2) Q (fun v H3 e3 g => q v H3 (e2.trans e3) g) E
theorem s_asgX {i : Nat} {d : PyData} (h : EvX te σ H d) (k : ∀ v H1, Ex H H1 → Dx H1 v d → D.nx (σ.set i (some v)) H1) : tAsg te (gName i) D σ H := h H (Ex.refl H) _ fun v H1 e g => k v H1 e g
theorem q_asgX {i : Nat} {d : PyData} (h : EvX te σ H d) (k : ∀ v H1, Ex H H1 → Dx H1 v d → tz D (σ.set i (some v)) H1) : tSeq (tAsg te (gName i)) tz D σ H := s_asgX (D := { D with nx := tz D }) h k
theorem s_retX {d : PyData} (h : EvX te σ H d) (k : ∀ v H1, Ex H H1 → Dx H1 v d → D.rt v H1) : tRet te D σ H := h H (Ex.refl H) _ k
end
def rsD : Rs → PyData
  | .session s n => .tuple [.str "session", .int s, .int n]
  | .group g => .tuple [.str "group", .int g]
  | .ring row => .tuple [.str "ring", .list (row.map PyData.int)]
def optD : Option Rs → PyData
  | none => .none
  | some r => rsD r
def rowD : Option (List Int) → PyData
  | none => .none
  | some row => .list (row.map PyData.int)
end KB
set_option Elab.async false
set_option linter.all false
set_option maxRecDepth 100000
set_option maxHeartbeats 4000000
namespace KB
open PySem PySem.Spec PyProof.Rows L2 Evl
theorem mem_take {α : Type} {xs : List α} {i : Nat} {x : α} (h : xs[i]? = some x) : ∀ y ∈ xs.take (i + 1), y ∈ xs.take i ∨ y = x := fun y m => by
  rw [List.take_add_one, h] at m
  rcases List.mem_append.mp m with m | m
  · exact .inl m
  · exact .inr (by simpa using m)
theorem ints_at {ns : List Int} {i : Nat} {x : V} (h : (ns.map V.int)[i]? = some x) : ∃ n, ns[i]? = some n ∧ x = .int n := by
  rw [List.getElem?_map] at h
  obtain ⟨n, e1, e2⟩ := Option.map_eq_some_iff.mp h
  exact ⟨n, e1, e2.symm⟩
theorem head_fm {α β : Type} {f : α → Option β} {xs : List α} {i : Nat} {x : α} {r : β} (h : xs[i]? = some x) (h0 : ∀ y ∈ xs.take i, f y = none) (h1 : f x = some r) : (xs.filterMap f).head? = some r := by
  have e : (xs.take i).filterMap f = [] := List.filterMap_eq_nil_iff.mpr h0
  rw [split_at h, List.filterMap_append, e, List.filterMap_cons, h1]
  rfl
theorem dx_non {H : Hp} {v : V} {o : Option Rs} (h : Dx H v (optD o)) : decide (v = .non) = o.isNone := by
  cases o with
  | none => cases h; rfl
  | some r =>
    cases r with
    | session s n => cases h; rfl
    | group g => cases h; rfl
    | ring row => cases h; rfl
theorem dx_row {H : Hp} {v : V} {o : Option (List Int)} (h : Dx H v (rowD o)) : decide (v = .non) = o.isNone := by
  cases o with
  | none => cases h; rfl
  | some r => cases h; rfl
end KB
set_option Elab.async false
set_option linter.all false
set_option maxRecDepth 100000
set_option maxHeartbeats 4000000
namespace KB
open PySem PySem.Spec PyProof.Rows L2 Evl
abbrev sFirstS : Stmt := topS 24
abbrev sFirstG : Stmt := topS 25
theorem scFirstS : FnScope ["kin", "session", "number"] ["kin"] (defScope sFirstS) := ⟨rfl, rfl, rfl, by decide +kernel, rfl, by decide +kernel, by decide +kernel⟩
theorem scFirstG : FnScope ["kin", "group"] ["kin"] (defScope sFirstG) := ⟨rfl, rfl, rfl, by decide +kernel, rfl, by decide +kernel, by decide +kernel⟩
def spFirstS (C : Addr) : Sp := fun vs H Q _ => ∃ k M, vs = [.ref k] ∧ Kn H C k M ∧ WF M ∧ RetD (optD (firstS M)) H Q
def spFirstG (C : Addr) : Sp := fun vs H Q _ => ∃ k M, vs = [.ref k] ∧ Kn H C k M ∧ WF M ∧ RetD (optD (firstG M)) H Q
section
variable {P : Program} {w : World} {K : PySem.W.Frag} {mg : Str → Option Value} {base : Heap} {f fS fB : Addr} {fd dS dB : FuncData} {C : Addr}
theorem ok_firstS (F : Fun K "first_session" "first_session" sFirstS f fd) (T : KT K C)
    (GS : FnOk P w K mg base CX0 1 fS dS ["kin"] (spSessions C)) (bS : Binds K dS ["kin"] []) (kS : PySem.W.keepIn K (.ref fS) = true) (mS : mg "sessions_of" = some (.ref fS))
    (GB : FnOk P w K mg base CX0 3 fB dB ["kin", "session", "number"] (spBarsS C)) (bB : Binds K dB ["kin", "session", "number"] []) (kB : PySem.W.keepIn K (.ref fB) = true) (mB : mg "bars_session" = some (.ref fB)) :
    FnOk P w K mg base CX0 4 f fd ["kin"] (spFirstS C) := by
  refine F.ok scFirstS (fun vs H Q E h => ?_) (fun cdv A outer s H vs Q E hr h => ?_)
  · obtain ⟨k, M, rfl, _⟩ := h
    rfl
  · obtain ⟨k, M, rfl, N, W, q⟩ := h
    have h1 : Room 1 _ := hr.mono (by decide)
    refine ⟨_, pss_cons (ps_for PassesOwn.never rfl (pi_list (pe_call GS h1 rfl mS kS bS .nil pass0 (pa_cons (pv 0) pa_nil))) (pg_name (i := 1) scFirstS.nd rfl (.inl rfl))
        (pss_one (ps_for PassesOwn.never rfl (pi_list (pe_fld (pv 0) rfl)) (pg_name (i := 2) scFirstS.nd rfl (.inl rfl))
          (pss_one (ps_if (pt_val (pe_call GB hr rfl mB kB bB .nil pass0 (pa_cons (pv 0) (pa_cons (pv 1) (pa_cons (pv 2) pa_nil))))) (pss_one (ps_ret (pe_tup (pa_cons pe_str (pa_cons (pv 1) (pa_cons (pv 2) pa_nil)))))) pss_nil)))))
      (pss_one (ps_ret pe_non)), ?_⟩
    have cS : SpL (spSessions C) ([.ref k] ++ []) H ((sessions M).map V.int) := fun H4 e4 Q q E => ⟨k, M, rfl, N.mono e4, W, q⟩
    refine q_forNLn (K := K) (el_call (ea_cons (ev_var rfl) ea_nil) cS) (fun p i σ G => (∃ y z, σ = [some (.ref k), y, z]) ∧ Ex H G ∧ G p = some (.lst ((sessions M).map V.int)) ∧ ∀ s ∈ (sessions M).take i, ∀ n ∈ keys M, barsS M s n = false)
      (fun p H1 np e1 g1 => ⟨⟨_, _, rfl⟩, e1, g1, fun s m => nomatch m⟩) (fun p i σ G _ g => sq_of g.2.2.1) ?_ ?_
    · rintro p i x σ G hx ⟨⟨y, z, rfl⟩, eG, gp, h0⟩
      obtain ⟨s, es, rfl⟩ := ints_at hx
      have N1 := N.mono eG
      obtain ⟨a, ea, la⟩ := kn_members (ta := tVar 0) (σ := [some (.ref k), some (.int s), z]) T N1 (ev_var (i := 0) rfl)
      refine s_forLn (K := K) ea la (fun j σ G2 => (∃ z, σ = [some (.ref k), some (.int s), z]) ∧ Ex G G2 ∧ ∀ n ∈ (keys M).take j, barsS M s n = false) (fun H1 e1 => ⟨⟨_, rfl⟩, e1, fun n m => nomatch m⟩) (fun j σ G2 _ g => ex_l g.2.1 la) ?_ ?_
      · rintro j x σ G2 hj ⟨⟨z2, rfl⟩, e2, j0⟩
        obtain ⟨n, en, rfl⟩ := ints_at hj
        have N2 := N1.mono e2
        have cB : SpV (spBarsS C) ([.ref k, .int s, .int n] ++ []) G2 (.bl (barsS M s n)) := fun H4 e4 Q q E => ⟨k, M, s, n, rfl, N2.mono e4, W, q⟩
        refine s_if (et_test (ev_call (ea_cons (ev_var rfl) (ea_cons (ev_var rfl) (ea_cons (ev_var rfl) ea_nil))) cB)) (fun hb H3 e3 => ?_) (fun hb H3 e3 => ?_)
        · refine s_retU (eu_tup (ea_cons ev_c (ea_cons (ev_var rfl) (ea_cons (ev_var rfl) ea_nil))) (by show 3 ≤ 100000; omega)) fun t H4 nt e4 g4 => ?_
          have hd : firstS M = some (.session s n) := by
            refine head_flat es (fun y m => ?_) (z := Rs.session s n) ?_
            · rw [filter_none fun n mn => h0 y m n mn]
              rfl
            · rw [List.head?_map, head_filter en (fun y m => j0 y m) hb]
              rfl
          refine q _ H4 (((eG.trans e2).trans e3).trans e4) ?_
          rw [hd]
          exact .tup g4 (.cons (.str _) (.cons (.int _) (.cons (.int _) .nil)))
        · refine ⟨⟨_, rfl⟩, e2.trans e3, fun y m => ?_⟩
          rcases mem_take en y m with m | rfl
          · exact j0 y m
          · exact hb
      · rintro σ G2 ⟨⟨z2, rfl⟩, e2, j0⟩
        refine ⟨⟨_, _, rfl⟩, eG.trans e2, e2 _ _ gp, fun y m => ?_⟩
        rcases mem_take es y m with m | rfl
        · exact h0 y m
        · rw [List.length_map, List.take_length] at j0
          exact j0
    · rintro p σ G ⟨⟨y, z, rfl⟩, eG, gp, h0⟩
      rw [List.length_map, List.take_length] at h0
      refine s_ret ev_c fun H2 e2 => q _ H2 (eG.trans e2) ?_
      have hd : firstS M = none := by
        unfold firstS
        rw [List.flatMap_eq_nil_iff.mpr]
        · rfl
        · intro s m
          rw [filter_none fun n mn => h0 s m n mn]
          rfl
      rw [hd]
      exact .non
theorem ok_firstG (F : Fun K "first_group" "first_group" sFirstG f fd) (T : KT K C)
    (GS : FnOk P w K mg base CX0 1 fS dS ["kin"] (spGroups C)) (bS : Binds K dS ["kin"] []) (kS : PySem.W.keepIn K (.ref fS) = true) (mS : mg "groups_of" = some (.ref fS))
    (GB : FnOk P w K mg base CX0 2 fB dB ["kin", "group"] (spBarsG C)) (bB : Binds K dB ["kin", "group"] []) (kB : PySem.W.keepIn K (.ref fB) = true) (mB : mg "bars_group" = some (.ref fB)) :
    FnOk P w K mg base CX0 3 f fd ["kin"] (spFirstG C) := by
  refine F.ok scFirstG (fun vs H Q E h => ?_) (fun cdv A outer s H vs Q E hr h => ?_)
  · obtain ⟨k, M, rfl, _⟩ := h
    rfl
  · obtain ⟨k, M, rfl, N, W, q⟩ := h
    have h1 : Room 1 _ := hr.mono (by decide)
    refine ⟨_, pss_cons (ps_for PassesOwn.never rfl (pi_list (pe_call GS h1 rfl mS kS bS .nil pass0 (pa_cons (pv 0) pa_nil))) (pg_name (i := 1) scFirstG.nd rfl (.inl rfl))
          (pss_one (ps_if (pt_val (pe_call GB hr rfl mB kB bB .nil pass0 (pa_cons (pv 0) (pa_cons (pv 1) pa_nil)))) (pss_one (ps_ret (pe_tup (pa_cons pe_str (pa_cons (pv 1) pa_nil))))) pss_nil)))
      (pss_one (ps_ret pe_non)), ?_⟩
    have cS : SpL (spGroups C) ([.ref k] ++ []) H ((groups M).map V.int) := fun H4 e4 Q q E => ⟨k, M, rfl, N.mono e4, W, q⟩
    refine q_forNLn (K := K) (el_call (ea_cons (ev_var rfl) ea_nil) cS) (fun p i σ G => (∃ y, σ = [some (.ref k), y]) ∧ Ex H G ∧ G p = some (.lst ((groups M).map V.int)) ∧ ∀ g ∈ (groups M).take i, splitB M g = false)
      (fun p H1 np e1 g1 => ⟨⟨_, rfl⟩, e1, g1, fun s m => nomatch m⟩) (fun p i σ G _ g => sq_of g.2.2.1) ?_ ?_
    · rintro p i x σ G hx ⟨⟨y, rfl⟩, eG, gp, h0⟩
      obtain ⟨g, es, rfl⟩ := ints_at hx
      have N1 := N.mono eG
      have cB : SpV (spBarsG C) ([.ref k, .int g] ++ []) G (.bl (splitB M g)) := fun H4 e4 Q q E => ⟨k, M, g, rfl, N1.mono e4, W, List.mem_of_getElem? es, q⟩
      refine s_if (et_test (ev_call (ea_cons (ev_var rfl) (ea_cons (ev_var rfl) ea_nil)) cB)) (fun hb H3 e3 => ?_) (fun hb H3 e3 => ?_)
      · refine s_retU (eu_tup (ea_cons ev_c (ea_cons (ev_var rfl) ea_nil)) (by show 2 ≤ 100000; omega)) fun t H4 nt e4 g4 => ?_
        have hd : firstG M = some (.group g) := by
          unfold firstG
          rw [List.head?_map, head_filter es (fun y m => h0 y m) hb]
          rfl
        refine q _ H4 ((eG.trans e3).trans e4) ?_
        rw [hd]
        exact .tup g4 (.cons (.str _) (.cons (.int _) .nil))
      · refine ⟨⟨_, rfl⟩, eG.trans e3, e3 _ _ gp, fun y m => ?_⟩
        rcases mem_take es y m with m | rfl
        · exact h0 y m
        · exact hb
    · rintro p σ G ⟨⟨y, rfl⟩, eG, gp, h0⟩
      rw [List.length_map, List.take_length] at h0
      refine s_ret ev_c fun H2 e2 => q _ H2 (eG.trans e2) ?_
      have hd : firstG M = none := by
        unfold firstG
        rw [filter_none fun g m => h0 g m]
        rfl
      rw [hd]
      exact .non
end
end KB
set_option Elab.async false
set_option linter.all false
set_option maxRecDepth 100000
set_option maxHeartbeats 4000000
namespace Evl
open PySem L2
section
variable {K : PySem.W.Frag} {σ : L2.St} {H H' : Hp} {ta tb te tx : TE} {t u : TT} {x y z v : V} {D : Ends} {tz : TS}
theorem ed_new : EvD tDNewK σ H [] := fun H1 e Q q p hp => q p _ hp (Ex.new hp) upd_same
theorem q_asgD {i : Nat} {kvs : List (Key × V)} (h : EvD te σ H kvs) (k : ∀ p H1, H p = none → Ex H H1 → H1 p = some (.dK kvs) → tz D (σ.set i (some (.ref p))) H1) : tSeq (tAsg te (gName i)) tz D σ H := h H (Ex.refl H) _ fun p H1 hp e g => k p H1 hp e g
/-- a list display that ends in a star -/
theorem ea_starN {xs : List V} (h : EvL te σ H xs) : ∀ H1, Ex H H1 → ∀ Q : List V → Hp → Prop, (∀ H2, Ex H1 H2 → Q xs H2) → StX.tStar K te tNil σ H1 Q := fun H1 e Q q =>
  h H1 e _ fun p H2 _ e2 g => ⟨p, xs, rfl, .inr (sq_of g), by
    show Q (xs ++ []) H2
    rw [List.append_nil]
    exact q H2 e2⟩
theorem ea_star {xs : List V} (h : EvL te σ H xs) : EvA (StX.tStar K te tNil) σ H xs := fun H1 e Q q => ea_starN h H1 e Q q
/-- d[n] = e -/
theorem s_dput {d : Addr} {kvs : List (Key × V)} {i : Int} (hv : Ev te σ H v) (hd : Ev ta σ H (.ref d)) (hk : Ev tb σ H (.int i)) (e0 : H d = some (.dK kvs)) (hl : kvs.length < 100000) (k : ∀ H1, Ex H H1 → D.nx σ (upd H1 d (.dK (putK kvs (Sum.inl i) v)))) : sDPut ta tb te D σ H :=
  hv H (Ex.refl H) _ fun H1 e1 => hd H1 e1 _ fun H2 e2 => hk H2 (e1.trans e2) _ fun H3 e3 => ⟨d, _, rfl, DPut.k (k := Sum.inl i) (((e1.trans e2).trans e3) _ _ e0) (sz_lt hl), k H3 ((e1.trans e2).trans e3)⟩
theorem evo_some {i : Int} (h : Ev te σ H (.int i)) : EvO (tPart te) σ H (some i) := fun H1 e Q q => h H1 e _ fun H2 e2 => ⟨i, rfl, q H2 e2⟩
theorem evo_none : EvO tNoPart σ H none := fun H1 e Q q => q H1 (Ex.refl H1)
end
end Evl
namespace KB
open PySem PySem.Spec PyProof.Rows L2 Evl
abbrev sNeeds : Stmt := topS 22
abbrev nNeeds : List Str := ["kin", "found", "session", "line", "number", "parent"]
theorem scNeeds : FnScope nNeeds ["kin"] (defScope sNeeds) := ⟨rfl, rfl, rfl, by decide +kernel, rfl, by decide +kernel, by decide +kernel⟩
/-- for each number what it needs -/
def Nd (H : Hp) (d : Addr) (M : Fam) : Prop := ∃ kvs, H d = some (.dK kvs) ∧ ∀ n, valV kvs (Sum.inl n) = (need M n).map V.int
theorem Nd.mono {H H' : Hp} {d : Addr} {M : Fam} (e : Ex H H') (h : Nd H d M) : Nd H' d M := by
  obtain ⟨kvs, h1, h2⟩ := h
  exact ⟨kvs, e _ _ h1, h2⟩
def spNeeds (C : Addr) : Sp := fun vs H Q _ => ∃ k M, vs = [.ref k] ∧ Kn H C k M ∧ WF M ∧ ∀ d H', Ex H H' → Nd H' d M → Q (.ref d) H'
theorem cut1 (x : V) (xs : List V) : cutV (x :: xs) (some 1) none = xs := by
  unfold cutV
  have e1 : HT.sIx (x :: xs).length 0 (some 1) = 1 := by
    show HT.sIx (x :: xs).length 0 (some ((1 : Nat) : Int)) = 1
    rw [HT.sIx_nat]
    simp
  have e2 : HT.sIx (x :: xs).length (x :: xs).length none = (x :: xs).length := HT.sIx_none ..
  rw [e1, e2]
  simp
section
variable {P : Program} {w : World} {K : PySem.W.Frag} {mg : Str → Option Value} {base : Heap} {f fS fL fA fO : Addr} {fd dS dL dA dO : FuncData} {C : Addr}
theorem ok_needs (F : Fun K "needs" "needs" sNeeds f fd) (T : KT K C)
    (GS : FnOk P w K mg base CX0 1 fS dS ["kin"] (spSessions C)) (bS : Binds K dS ["kin"] []) (kS : PySem.W.keepIn K (.ref fS) = true) (mS : mg "sessions_of" = some (.ref fS))
    (GL : FnOk P w K mg base CX0 1 fL dL ["kin", "session"] (spIsLed C)) (bL : Binds K dL ["kin", "session"] []) (kL : PySem.W.keepIn K (.ref fL) = true) (mL : mg "is_led" = some (.ref fL))
    (GA : FnOk P w K mg base CX0 1 fA dA ["kin", "number"] (spAbove C)) (bA : Binds K dA ["kin", "number"] []) (kA : PySem.W.keepIn K (.ref fA) = true) (mA : mg "all_above" = some (.ref fA))
    (GO : FnOk P w K mg base CX0 3 fO dO ["kin", "session"] (spOthers C)) (bO : Binds K dO ["kin", "session"] []) (kO : PySem.W.keepIn K (.ref fO) = true) (mO : mg "other_tops" = some (.ref fO)) :
    FnOk P w K mg base CX0 4 f fd ["kin"] (spNeeds C) := by
  refine F.ok scNeeds (fun vs H Q E h => ?_) (fun cdv A outer s H vs Q E hr h => ?_)
  · obtain ⟨k, M, rfl, _⟩ := h
    rfl
  · obtain ⟨k, M, rfl, N, W, q⟩ := h
    have hu := hu_of hr
    have h1 : Room 1 _ := hr.mono (by decide)
    refine ⟨_, pss_cons (ps_set (i := 1) scNeeds.nd rfl (.inl rfl) pe_dnewK)
      (pss_cons (ps_for PassesOwn.never rfl (pi_list (pe_call GS h1 rfl mS kS bS .nil pass0 (pa_cons (pv 0) pa_nil))) (pg_name (i := 2) scNeeds.nd rfl (.inl rfl))
        (pss_one (ps_if (pt_val (pe_call GL h1 rfl mL kL bL .nil pass0 (pa_cons (pv 0) (pa_cons (pv 2) pa_nil))))
          (pss_cons (ps_set (i := 3) scNeeds.nd rfl (.inl rfl) (pe_lst (pa_cons (pv 2) (StX.pa_star (pe_call GA h1 rfl mA kA bA .nil pass0 (pa_cons (pv 0) (pa_cons (pv 2) pa_nil))) pa_nil))))
          (pss_one (ps_for PassesOwn.never rfl (pi_list (pe_call GO hr rfl mO kO bO .nil pass0 (pa_cons (pv 0) (pa_cons (pv 2) pa_nil)))) (pg_name (i := 4) scNeeds.nd rfl (.inl rfl))
            (pss_cons (ps_set (i := 5) scNeeds.nd rfl (.inl rfl) (pe_dget hu (pe_fld (pv 0) rfl) (pv 4) (fun _ _ => rfl)))
            (pss_one (ps_if (pt_cmpR op_in_seq (pv 5) (pe_slice sl_list (pv 3) (po_some pe_int) po_none) rfl)
              (pss_one (ps_dput hu (pv 1) (pv 4) (pe_ix ix_list (pv 3) (pe_op op_sub (pe_bm PySem.F.plainAttrs_list PySem.F.slot_list_index PySem.F.type_list_index mt_index (pv 3) (pa_cons (pv 5) pa_nil)) pe_int) (fun _ _ => rfl)) rfl)) pss_nil)))))) pss_nil)))
      (pss_one (ps_ret (pv 1)))), ?_⟩
    refine q_asgD ed_new fun d H0 nd e0 g0 => ?_
    have N0 := N.mono e0
    have cS : SpL (spSessions C) ([.ref k] ++ []) H0 ((sessions M).map V.int) := fun H4 e4 Q q E => ⟨k, M, rfl, N0.mono e4, W, q⟩
    have slen : (sessions M).length ≤ 20 := by
      have := len_asc (M.map (·.s))
      rw [List.length_map] at this
      have := W.few
      unfold sessions
      omega
    refine q_forNLn (K := K) (el_call (ea_cons (ev_var rfl) ea_nil) cS) (fun p i σ G => (∃ y1 y2 y3 y4, σ = [some (.ref k), some (.ref d), y1, y2, y3, y4]) ∧ Ex H G ∧ p ≠ d ∧ G p = some (.lst ((sessions M).map V.int)) ∧
        ∃ kvs, G d = some (.dK kvs) ∧ kvs.length ≤ 20 * i ∧ ∀ n, valV kvs (Sum.inl n) = if n ∈ keys M ∧ ses M n ∈ (sessions M).take i then (need M n).map V.int else none)
      (fun p H1 np e1 g1 => ⟨⟨_, _, _, _, rfl⟩, e0.trans e1, (fun z => by rw [z, g0] at np; cases np), g1, [], e1 _ _ g0, Nat.zero_le _, fun n => (if_neg fun c => nomatch c.2).symm⟩) (fun p i σ G _ g => sq_of g.2.2.2.1) ?_ ?_
    · rintro p i x σ G hx ⟨⟨y1, y2, y3, y4, rfl⟩, eG, npd, gp, kvs, gd, hl, hv⟩
      obtain ⟨s, es, rfl⟩ := ints_at hx
      have hi : i < 20 := by
        have := (List.getElem?_eq_some_iff.mp es).1
        omega
      have ms : s ∈ sessions M := List.mem_of_getElem? es
      have tk : ∀ n, ses M n ∈ (sessions M).take (i + 1) ↔ ses M n ∈ (sessions M).take i ∨ ses M n = s := fun n => by
        rw [List.take_add_one, es, List.mem_append]
        simp
      have N1 := N.mono eG
      have cL : SpV (spIsLed C) ([.ref k, .int s] ++ []) G (.bl (decide (s ∈ keys M))) := fun H2 e2 Q q E => ⟨k, M, s, rfl, N1.mono e2, q⟩
      refine s_if (et_test (ev_call (ea_cons (ev_var rfl) (ea_cons (ev_var rfl) ea_nil)) cL)) (fun hb G1 e1 => ?_) (fun hb G1 e1 => ?_)
      · have ls : s ∈ keys M := of_decide_eq_true hb
        have N2 := N1.mono e1
        have cA : SpL (spAbove C) ([.ref k, .int s] ++ []) G1 ((above M s).map V.int) := fun H2 e2 Q q E => ⟨k, M, s, rfl, N2.mono e2, W, ls, q⟩
        have alen := above_len W s ls
        refine q_asgL (el_lst (ea_cons (ev_var rfl) (ea_star (el_call (ea_cons (ev_var rfl) (ea_cons (ev_var rfl) ea_nil)) cA))) (by rw [List.length_cons, List.length_map]; omega)) fun ln G2 nl e2 gl => ?_
        have N3 := N2.mono e2
        have cO : SpL (spOthers C) ([.ref k, .int s] ++ []) G2 (((tops M s).filter fun n => !decide (n = s)).map V.int) := fun H2 e2 Q q E => ⟨k, M, s, rfl, N3.mono e2, W, q⟩
        have olen : ((tops M s).filter fun n => !decide (n = s)).length ≤ 20 := Nat.le_trans (List.length_filter_le _ _) (tops_len W s)
        have gd2 : G2 d = some (.dK kvs) := e2 _ _ (e1 _ _ gd)
        have nld : ln ≠ d := fun z => by rw [z, e1 _ _ gd] at nl; cases nl
        have nlp : ln ≠ p := fun z => by rw [z, e1 _ _ gp] at nl; cases nl
        refine s_forNL (K := K) (el_call (ea_cons (ev_var rfl) (ea_cons (ev_var rfl) ea_nil)) cO) (fun o j σ G3 => (∃ y3 y4, σ = [some (.ref k), some (.ref d), some (.int s), some (.ref ln), y3, y4]) ∧ Ex H G3 ∧ o ≠ d ∧ G3 p = some (.lst ((sessions M).map V.int)) ∧
            G3 o = some (.lst (((tops M s).filter fun n => !decide (n = s)).map V.int)) ∧ G3 ln = some (.lst (.int s :: (above M s).map V.int)) ∧
            ∃ kvs, G3 d = some (.dK kvs) ∧ kvs.length ≤ 20 * i + j ∧ ∀ n, valV kvs (Sum.inl n) = if (n ∈ keys M ∧ ses M n ∈ (sessions M).take i) ∨ n ∈ ((tops M s).filter fun n => !decide (n = s)).take j then (need M n).map V.int else none)
          (fun o G3 no e3 go => ⟨⟨_, _, rfl⟩, (eG.trans e1).trans (e2.trans e3), (fun z => by rw [z, gd2] at no; cases no), e3 _ _ (e2 _ _ (e1 _ _ gp)), go, e3 _ _ gl, kvs, e3 _ _ gd2, hl, fun n => by
            rw [hv n]
            simp⟩) (fun o j σ G3 _ g => sq_of g.2.2.2.2.1) ?_ ?_
        · rintro o j x σ G3 hj ⟨⟨y3, y4, rfl⟩, e3, nod, gp3, go3, gl3, kv, gd3, hl3, hv3⟩
          obtain ⟨n, en, rfl⟩ := ints_at hj
          have hj20 : j < 20 := by
            have := (List.getElem?_eq_some_iff.mp en).1
            omega
          have mo := List.mem_of_getElem? en
          obtain ⟨mt, ne⟩ := List.mem_filter.mp mo
          have ne' : n ≠ s := by simpa using ne
          obtain ⟨mn, tb⟩ := mem_tops.mp mt
          have esn : ses M n = s := by
            unfold topB at tb
            rw [Bool.and_eq_true] at tb
            exact of_decide_eq_true tb.1
          have N4 := N.mono e3
          refine q_asg (kn_par T N4 (ev_var rfl) (ev_var rfl) mn) fun G4 e4 => ?_
          have gl4 := e4 _ _ gl3
          have sl : EvL (tSl (rSlL K) (tVar 3) (tPart (tC (.int 1))) tNoPart) [some (.ref k), some (.ref d), some (.int s), some (.ref ln), some (.int n), some (.int (up M n))] G4 ((above M s).map V.int) := by
            have r := el_sl (K := K) (te := tVar 3) (σ := [some (.ref k), some (.ref d), some (.int s), some (.ref ln), some (.int n), some (.int (up M n))]) (ev_var rfl) (evo_some ev_c) evo_none (sq_of gl4) (lo := some 1) (hi := none)
            rw [cut1] at r
            exact r
          have step : ∀ (kv' : List (Key × V)), (∀ m, valV kv' (Sum.inl m) = if m = n then (need M n).map V.int else valV kv (Sum.inl m)) → ∀ m, valV kv' (Sum.inl m) = if (m ∈ keys M ∧ ses M m ∈ (sessions M).take i) ∨ m ∈ ((tops M s).filter fun n => !decide (n = s)).take (j + 1) then (need M m).map V.int else none := by
            intro kv' h m
            rw [h m, List.take_add_one, en]
            by_cases z : m = n
            · subst z
              rw [if_pos rfl, if_pos (.inr (by simp))]
            · rw [if_neg z, hv3 m]
              have : (m ∈ ((tops M s).filter fun n => !decide (n = s)).take j ++ [n]) ↔ m ∈ ((tops M s).filter fun n => !decide (n = s)).take j := by simp [z]
              simp only [Option.toList_some, this]
          refine s_if (et_test (ev_opL (ev_var rfl) sl (fun c G5 hc e5 => rv_inI (sq_of hc)))) (fun hin G5 e5 => ?_) (fun hin G5 e5 => ?_)
          · have min : up M n ∈ above M s := of_decide_eq_true hin
            obtain ⟨ix, hix, hfirst⟩ : ∃ ix, (above M s)[ix]? = some (up M n) ∧ ∀ j, j < ix → ∀ y, (above M s)[j]? = some y → y ≠ up M n := by
              exact first_idx min
            have hnd := need_line (n := n) W (by rw [esn]; exact ls) (by rw [esn]; exact fun z => ne' z.symm) (by rw [esn]; exact tb) (by rw [esn]; exact hix) (by rw [esn]; exact hfirst)
            rw [esn] at hnd
            obtain ⟨a, ea, en2⟩ := hnd
            have nsup : s ≠ up M n := fun z => above_self W ls (z ▸ min)
            have gl5 := e5 _ _ gl4
            have ixv : Ev (tBM K "list" (rIndex K) (tVar 3) (tCons (tVar 5) tNil)) [some (.ref k), some (.ref d), some (.int s), some (.ref ln), some (.int n), some (.int (up M n))] G5 (.int ((ix + 1 : Nat) : Int)) := fun H1 e1 Q qq =>
              ⟨_, rfl, .inl ⟨rfl, _, sq_of (e1 _ _ gl5)⟩, _, rfl, ln, _, _, ix + 1, .int (up M n), rfl, rfl, sq_of (e1 _ _ gl5), rfl, by
                have := flat_ints (s :: above M s)
                simpa using this, by
                rw [List.getElem?_cons_succ, List.getElem?_map, hix]
                rfl, by show ((up M n) == (up M n)) = true; exact beq_self_eq_true _, fun m z' hm hz => by
                cases m with
                | zero =>
                  simp at hz
                  subst hz
                  exact beq_eq_false_iff_ne.mpr nsup
                | succ m =>
                  rw [List.getElem?_cons_succ] at hz
                  obtain ⟨b, eb, rfl⟩ := ints_at hz
                  exact beq_eq_false_iff_ne.mpr (hfirst m (by omega) b eb), qq H1 (Ex.refl H1)⟩
            have itm : Ev (tOp (rIxL K) (tVar 3) (tOp (rI0 fun i j => .int (i - j)) (tBM K "list" (rIndex K) (tVar 3) (tCons (tVar 5) tNil)) (tC (.int 1)))) [some (.ref k), some (.ref d), some (.int s), some (.ref ln), some (.int n), some (.int (up M n))] G5 (.int a) := by
              refine ev_op (ev_var rfl) (ev_op ixv ev_c rv_I0) (rv_ixL (sq_of gl5) ?_)
              have e : (((ix + 1 : Nat) : Int) - 1) = (ix : Int) := by omega
              rw [e]
              refine atI_nat ?_
              have : (V.int s :: (above M s).map V.int) = (s :: above M s).map V.int := rfl
              rw [this, List.getElem?_map, ea]
              rfl
            refine s_dput itm (ev_var rfl) (ev_var rfl) (e5 _ _ (e4 _ _ gd3)) (by omega) fun G6 e6 => ?_
            have X : Ex G3 G6 := (e4.trans e5).trans e6
            have nd' : ∀ {b : Addr} {o : HO}, b ≠ d → G6 b = some o → upd G6 d (.dK (putK kv (Sum.inl n) (.int a))) b = some o := fun z h => by rw [upd_ne z]; exact h
            refine ⟨⟨_, _, rfl⟩, Ex.mut (e3.trans X) nd, nod, nd' npd (X _ _ gp3), nd' nod (X _ _ go3), nd' nld (X _ _ gl3), _, upd_same, ?_, step _ fun m => ?_⟩
            · have := length_putK kv (Sum.inl n) (.int a)
              omega
            · rw [valV_put]
              by_cases z : m = n
              · rw [if_pos z, if_pos (by rw [z]), en2]
                rfl
              · rw [if_neg z, if_neg (fun c => z (Sum.inl.inj c))]
          · have nin : up M n ∉ above M s := of_decide_eq_false hin
            have X : Ex G3 G5 := e4.trans e5
            refine ⟨⟨_, _, rfl⟩, e3.trans X, nod, X _ _ gp3, X _ _ go3, X _ _ gl3, kv, X _ _ gd3, by omega, step _ fun m => ?_⟩
            by_cases z : m = n
            · subst z
              rw [if_pos rfl, need_no W (by rw [esn]; exact ls) (by rw [esn]; exact nin), hv3 m, need_no W (by rw [esn]; exact ls) (by rw [esn]; exact nin)]
              simp
            · rw [if_neg z]
        · rintro o σ G3 ⟨⟨y3, y4, rfl⟩, e3, nod, gp3, go3, gl3, kv, gd3, hl3, hv3⟩
          rw [List.length_map] at hl3 hv3
          rw [List.take_length] at hv3
          refine ⟨⟨_, _, _, _, rfl⟩, e3, npd, gp3, kv, gd3, by omega, fun m => ?_⟩
          rw [hv3 m]
          by_cases c1 : m ∈ keys M ∧ ses M m ∈ (sessions M).take i
          · rw [if_pos (.inl c1), if_pos ⟨c1.1, (tk m).mpr (.inl c1.2)⟩]
          · by_cases c2 : m ∈ (tops M s).filter fun n => !decide (n = s)
            · obtain ⟨mt, _⟩ := List.mem_filter.mp c2
              obtain ⟨mm, tb⟩ := mem_tops.mp mt
              have esm : ses M m = s := by
                unfold topB at tb
                rw [Bool.and_eq_true] at tb
                exact of_decide_eq_true tb.1
              rw [if_pos (.inr c2), if_pos ⟨mm, (tk m).mpr (.inr esm)⟩]
            · rw [if_neg (fun c => c.elim c1 c2)]
              by_cases c3 : m ∈ keys M ∧ ses M m ∈ (sessions M).take (i + 1)
              · rw [if_pos c3]
                rcases (tk m).mp c3.2 with z | z
                · exact absurd ⟨c3.1, z⟩ c1
                · have : need M m = none := by
                    unfold need
                    rw [if_neg]
                    rintro ⟨q1, q2, q3⟩
                    rw [z] at q2 q3
                    refine c2 (List.mem_filter.mpr ⟨mem_tops.mpr ⟨c3.1, q3⟩, ?_⟩)
                    show (!decide (m = s)) = true
                    rw [decide_eq_false fun h : m = s => q2 h.symm]
                    rfl
                  rw [this]
                  rfl
              · rw [if_neg c3]
      · have ls : s ∉ keys M := of_decide_eq_false hb
        refine ⟨⟨_, _, _, _, rfl⟩, eG.trans e1, npd, e1 _ _ gp, kvs, e1 _ _ gd, by omega, fun m => ?_⟩
        rw [hv m]
        by_cases c1 : m ∈ keys M ∧ ses M m ∈ (sessions M).take i
        · rw [if_pos c1, if_pos ⟨c1.1, (tk m).mpr (.inl c1.2)⟩]
        · rw [if_neg c1]
          by_cases c3 : m ∈ keys M ∧ ses M m ∈ (sessions M).take (i + 1)
          · rw [if_pos c3]
            rcases (tk m).mp c3.2 with z | z
            · exact absurd ⟨c3.1, z⟩ c1
            · have : need M m = none := by
                unfold need
                rw [if_neg]
                rintro ⟨q1, _⟩
                rw [z] at q1
                exact ls q1
              rw [this]
              rfl
          · rw [if_neg c3]
    · rintro p σ G ⟨⟨y1, y2, y3, y4, rfl⟩, eG, npd, gp, kvs, gd, hl, hv⟩
      rw [List.length_map, List.take_length] at hv
      refine s_ret (ev_var rfl) fun H2 e2 => q d H2 (eG.trans e2) ⟨kvs, e2 _ _ gd, fun n => ?_⟩
      rw [hv n]
      by_cases z : n ∈ keys M
      · obtain ⟨r, m, rfl⟩ := W.row z
        rw [if_pos ⟨z, mem_asc.mpr (by rw [W.ses m]; exact List.mem_map_of_mem (f := fun r : Rw => r.s) m)⟩]
      · rw [if_neg (fun c => z c.1), need_out W z]
        rfl
end
end KB
set_option Elab.async false
set_option linter.all false
set_option maxRecDepth 100000
set_option maxHeartbeats 4000000
namespace Evl
open PySem L2
/-- a value of which P holds -/
def EvP (te : TE) (σ : L2.St) (H : Hp) (P : V → Hp → Prop) : Prop := ∀ H1, Ex H H1 → ∀ Q : VK, (∀ v H2, Ex H1 H2 → P v H2 → Q v H2) → te σ H1 Q
def SpP (sp : Sp) (vs : List V) (H : Hp) (P : V → Hp → Prop) : Prop := ∀ H1, Ex H H1 → ∀ Q : VK, (∀ v H2, Ex H1 H2 → P v H2 → Q v H2) → ∀ E : XK, sp vs H1 Q E
section
variable {K : PySem.W.Frag} {σ : L2.St} {H H' : Hp} {ta tb te tx : TE} {t u : TT} {x y z v : V} {D : Ends} {tz : TS} {P : V → Hp → Prop}
theorem ep_call {sp : Sp} {dvs vs : List V} {E : XK} {ta : TA} (h : EvA ta σ H vs) (hs : SpP sp (vs ++ dvs) H P) : EvP (tCall sp dvs E ta) σ H P := fun H1 e Q q =>
  h H1 e _ fun H2 e2 => hs H2 (e.trans e2) Q (fun v H3 e3 g => q v H3 (e2.trans e3) g) E
theorem q_asgP {i : Nat} (h : EvP te σ H P) (k : ∀ v H1, Ex H H1 → P v H1 → tz D (σ.set i (some v)) H1) : tSeq (tAsg te (gName i)) tz D σ H := h H (Ex.refl H) _ fun v H1 e g => k v H1 e g
theorem s_retP (h : EvP te σ H P) (k : ∀ v H1, Ex H H1 → P v H1 → D.rt v H1) : tRet te D σ H := h H (Ex.refl H) _ k
theorem ev_notN (h : Ev ta σ H x) : Ev (tNotN ta) σ H (.bl (!decide (x = .non))) := fun H1 e Q q => h H1 e _ fun H2 e2 => q H2 e2
end
end Evl
namespace KB
open PySem PySem.Spec PyProof.Rows L2 Evl
abbrev sRing : Stmt := topS 23
abbrev nRing : List Str := ["needed", "number", "row", "closes"]
theorem scRing : FnScope nRing ["needed", "number"] (defScope sRing) := ⟨rfl, rfl, rfl, by decide +kernel, rfl, by decide +kernel, by decide +kernel⟩
def spRing : Sp := fun vs H Q _ => ∃ d M n, vs = [.ref d, .int n] ∧ Nd H d M ∧ WF M ∧ RetD (rowD (ring M n)) H Q
theorem go_end {M : Fam} {f : Nat} {row : List Int} : ∀ {l : Option Int}, (∀ x, l = some x → x ∈ row) → ringGo M f row l = (row, l) := by
  intro l h
  cases f with
  | zero => rfl
  | succ f =>
    cases l with
    | none => rfl
    | some x =>
      show (if x ∈ row then (row, some x) else _) = _
      rw [if_pos (h x rfl)]
theorem opt_some (o : Option Int) : (o.map V.int).isSome = o.isSome := by cases o <;> rfl
section
variable {P : Program} {w : World} {K : PySem.W.Frag} {mg : Str → Option Value} {base : Heap} {f : Addr} {fd : FuncData} {C : Addr}
theorem ok_ring (F : Fun K "ring_from" "ring_from" sRing f fd) (mm : mg "min" = none) : FnOk P w K mg base CX0 1 f fd ["needed", "number"] spRing := by
  refine F.ok scRing (fun vs H Q E h => ?_) (fun cdv A outer s H vs Q E hr h => ?_)
  · obtain ⟨k, M, n, rfl, _⟩ := h
    rfl
  · obtain ⟨d, M, n, rfl, N, W, q⟩ := h
    have hu := hu_of hr
    refine ⟨_, pss_cons (ps_set (i := 2) scRing.nd rfl (.inl rfl) (pe_lst (pa_cons (pv 1) pa_nil)))
      (pss_cons (ps_while PassesOwn.never (PW.pt (pw_and (pt_cmp (pc_din hu (pe_ix ix_list (pv 2) (pe_un un_neg pe_int) (fun _ _ => rfl)) (pv 0))) (pw_and1 (pt_cmpR op_notIn_seq (pe_dget hu (pv 0) (pe_ix ix_list (pv 2) (pe_un un_neg pe_int) (fun _ _ => rfl)) (fun _ _ => rfl)) (pv 2) rfl))))
        (pss_one (ps_expr (pe_bm PySem.F.plainAttrs_list PySem.F.slot_list_append PySem.F.type_list_append mt_append (pv 2) (pa_cons (pe_dget hu (pv 0) (pe_ix ix_list (pv 2) (pe_un un_neg pe_int) (fun _ _ => rfl)) (fun _ _ => rfl)) pa_nil)))))
      (pss_cons (ps_set (i := 3) scRing.nd rfl (.inl rfl) (pe_and (pe_cmp (pc_din hu (pe_ix ix_list (pv 2) (pe_un un_neg pe_int) (fun _ _ => rfl)) (pv 0)) rfl) (pe_one (pe_cmpR op_eq (pe_dget hu (pv 0) (pe_ix ix_list (pv 2) (pe_un un_neg pe_int) (fun _ _ => rfl)) (fun _ _ => rfl)) (pv 1) (nomark _)))))
      (pss_one (ps_ret (pe_ifExp (PW.pt (pw_and (pt_val (pv 3)) (pw_and1 (pt_cmpR op_eq (pe_callB (cr_min rfl) (by rfl) mm (by decide +kernel) (pa_cons (pv 2) pa_nil)) (pv 1) (nomark _))))) (pv 2) pe_non))))), ?_⟩
    obtain ⟨kvs, gd, hv⟩ := N
    refine q_asgL (el_lst (ea_cons (ev_var rfl) ea_nil) (by show 1 ≤ 100000; omega)) fun p H1 np e1 g1 => ?_
    refine q_while (fun c σ G => σ = [some (.ref d), some (.int n), some (.ref p), none] ∧ Ex H G ∧ ∃ pre a tl, G p = some (.lst (pre.map V.int ++ [.int a])) ∧ pre ++ [a] = n :: tl ∧ tl.Nodup ∧ (∀ b ∈ tl, b ∈ keys M) ∧ pre.length + c = 64 ∧ ringGo M c (pre ++ [a]) (need M a) = ringGo M 64 [n] (need M n))
      64 ⟨rfl, e1, [], n, [], g1, rfl, List.nodup_nil, fun b m => (nomatch m), rfl, rfl⟩ ?_
    rintro c σ G ⟨rfl, eG, pre, a, tl, gp, er, nd, sub, hc, go⟩
    have gd1 := eG _ _ gd
    have lasts : ∀ {σ2 : L2.St} {G2 : Hp}, σ2[2]? = some (some (.ref p)) → G2 p = some (.lst (pre.map V.int ++ [.int a])) → Ev (tOp (rIxL K) (tVar 2) (tUn (rU fun i => .int (-i)) (tC (.int 1)))) σ2 G2 (.int a) := fun h g => ev_op (ev_var h) (ev_un ev_c ru_neg) (rv_ixLast (sq_of g))
    have isin : ∀ {σ2 : L2.St} {G2 : Hp}, σ2[0]? = some (some (.ref d)) → σ2[2]? = some (some (.ref p)) → Ex G G2 → Ev (tDIn (tOp (rIxL K) (tVar 2) (tUn (rU fun i => .int (-i)) (tC (.int 1)))) (tVar 0)) σ2 G2 (.bl (need M a).isSome) := fun h0 h2 e => by
      have r := ev_din (kvs := kvs) (lasts h2 (e _ _ gp)) (ev_var h0) (e _ _ gd1)
      rw [hv a, opt_some] at r
      exact r
    have at_ : ∀ {σ2 : L2.St} {G2 : Hp} {x : Int}, σ2[0]? = some (some (.ref d)) → σ2[2]? = some (some (.ref p)) → Ex G G2 → need M a = some x → Ev (tDGet (tVar 0) (tOp (rIxL K) (tVar 2) (tUn (rU fun i => .int (-i)) (tC (.int 1))))) σ2 G2 (.int x) := fun h0 h2 e hx =>
      ev_dget (kvs := kvs) (ev_var h0) (lasts h2 (e _ _ gp)) (e _ _ gd1) (by rw [hv a, hx]; rfl)
    have eint : pre.map V.int ++ [V.int a] = (pre ++ [a]).map V.int := by rw [List.map_append]; rfl
    have len : (pre ++ [a]).length ≤ 21 := by
      rw [er, List.length_cons]
      have := nodup_len nd sub
      rw [len_keys] at this
      have := W.few
      omega
    have more : ∀ x, need M a = some x → x ∉ pre ++ [a] → c = c - 1 + 1 ∧ ringGo M (c - 1) (pre ++ [a] ++ [x]) (need M x) = ringGo M 64 [n] (need M n) := fun x hx nx => by
      rw [List.length_append] at len
      have e : c = c - 1 + 1 := by simp at len; omega
      refine ⟨e, ?_⟩
      rw [← go, hx]
      conv => rhs; rw [e]
      show _ = if x ∈ pre ++ [a] then _ else _
      rw [if_neg nx]
    refine ⟨(need M a).isSome && !decide ((need M a).getD 0 ∈ pre ++ [a]), et_and (et_test (isin rfl rfl (Ex.refl G))) (fun h => ?_), fun hb G1 e1 => ?_, fun hb G1 e1 => ?_⟩
    · obtain ⟨x, hx⟩ := Option.isSome_iff_exists.mp h
      rw [hx]
      refine et_test (ev_op (at_ rfl rfl (Ex.refl G) hx) (ev_var rfl) (rv_niI (sq_of ?_)))
      rw [gp, eint]
    · rw [Bool.and_eq_true] at hb
      obtain ⟨x, hx⟩ := Option.isSome_iff_exists.mp hb.1
      have nx : x ∉ pre ++ [a] := by
        have := hb.2
        rw [hx] at this
        simpa using this
      obtain ⟨ec, gm⟩ := more x hx nx
      refine ⟨fun σ2 H3 => σ2 = [some (.ref d), some (.int n), some (.ref p), none] ∧ Ex H H3 ∧ H3 p = some (.lst ((pre ++ [a]).map V.int ++ [.int x])), ?_, ?_⟩
      · rintro σ2 H3 ⟨rfl, e3, g3⟩
        refine ⟨c - 1, by omega, rfl, e3, pre ++ [a], x, tl ++ [x], g3, by rw [er]; rfl, ?_, fun b m => ?_, by rw [List.length_append]; simp; omega, gm⟩
        · refine List.nodup_append.mpr ⟨nd, by simp, fun b mb b' mb' => ?_⟩
          have e' : b' = x := by simpa using mb'
          rw [e']
          intro z
          exact nx (by rw [er, ← z]; exact List.mem_cons_of_mem _ mb)
        · rcases List.mem_append.mp m with m | m
          · exact sub b m
          · rw [show b = x by simpa using m]
            exact need_in W hx
      · refine s_app (e1 _ _ gp) (ev_var rfl) (at_ rfl rfl e1 hx) (by simp; simp at len; omega) fun H3 e3 => ⟨rfl, Ex.mut ((eG.trans e1).trans e3) np, ?_⟩
        rw [upd_same, eint]
    · -- the row is whole
      have stop : ringGo M c (pre ++ [a]) (need M a) = (pre ++ [a], need M a) := go_end fun x hx => by
        have h : (true && !decide (x ∈ pre ++ [a])) = false := by rw [hx] at hb; exact hb
        by_cases m : x ∈ pre ++ [a]
        · exact m
        · rw [decide_eq_false m] at h
          cases h
      have er2 : ring M n = if need M a = some n ∧ (pre ++ [a]).all (fun b => decide (n ≤ b)) = true then some (pre ++ [a]) else none := by
        unfold ring
        rw [← go, stop]
      have cl : Ev (tAndV (tDIn (tOp (rIxL K) (tVar 2) (tUn (rU fun i => .int (-i)) (tC (.int 1)))) (tVar 0)) (tOp rEq (tDGet (tVar 0) (tOp (rIxL K) (tVar 2) (tUn (rU fun i => .int (-i)) (tC (.int 1))))) (tVar 1))) [some (.ref d), some (.int n), some (.ref p), none] G1 (.bl (decide (need M a = some n))) := by
        have r := ev_andV (b := decide ((need M a).getD 0 = n)) (isin (G2 := G1) (σ2 := [some (.ref d), some (.int n), some (.ref p), none]) rfl rfl e1) (fun h => by
          obtain ⟨x, hx⟩ := Option.isSome_iff_exists.mp h
          have r := ev_op (at_ (G2 := G1) (σ2 := [some (.ref d), some (.int n), some (.ref p), none]) rfl rfl e1 hx) (ev_var (i := 1) (v := .int n) rfl) (rv_eq rfl)
          rw [dec_int] at r
          rw [hx]
          exact r)
        have e : ((need M a).isSome && decide ((need M a).getD 0 = n)) = decide (need M a = some n) := by
          cases need M a with
          | none => simp
          | some x => simp
        rw [e] at r
        exact r
      refine q_asg cl fun G2 e2 => ?_
      have gp2 : G2 p = some (.lst ((pre ++ [a]).map V.int)) := by rw [← eint]; exact e2 _ _ (e1 _ _ gp)
      have low : EvT (tTest (tOp rEq (tCB (rMin K) (tCons (tVar 2) tNil)) (tVar 1))) [some (.ref d), some (.int n), some (.ref p), some (.bl (decide (need M a = some n)))] G2 ((pre ++ [a]).all fun b => decide (n ≤ b)) := fun H3 e3 Q qq => by
        refine ⟨_, rfl, p, pre ++ [a], rfl, sq_of (e3 _ _ gp2), by simp, fun m mm hm => ⟨_, rfl, rfl, _, rfl, ?_⟩⟩
        have e : decide (V.int m = V.int n) = (pre ++ [a]).all fun b => decide (n ≤ b) := by
          rw [dec_int, Bool.eq_iff_iff, decide_eq_true_iff, List.all_eq_true]
          constructor
          · intro z b mb
            rw [← z]
            exact decide_eq_true (hm b mb)
          · intro h
            have h1 := of_decide_eq_true (h m mm)
            have h2 := hm n (by rw [er]; exact List.mem_cons_self)
            omega
        rw [e]
        exact qq H3 (Ex.refl H3)
      have test := et_and (b := (pre ++ [a]).all fun b => decide (n ≤ b)) (et_B (σ := [some (.ref d), some (.int n), some (.ref p), some (.bl (decide (need M a = some n)))]) (H := G2) (ev_var (i := 3) rfl)) (fun _ => low)
      have eX := (eG.trans e1).trans e2
      refine test G2 (Ex.refl G2) _ fun G3 e3 => ?_
      by_cases z : need M a = some n ∧ (pre ++ [a]).all (fun b => decide (n ≤ b)) = true
      · rw [if_pos z] at er2
        rw [decide_eq_true z.1, z.2]
        refine iteT ⟨_, rfl, q _ G3 (eX.trans e3) ?_⟩
        rw [er2]
        exact .lst (e3 _ _ gp2) (dx_ints _)
      · rw [if_neg z] at er2
        have zb : (decide (need M a = some n) && (pre ++ [a]).all fun b => decide (n ≤ b)) = false := by
          cases h : (decide (need M a = some n) && (pre ++ [a]).all fun b => decide (n ≤ b)) with
          | false => rfl
          | true =>
            rw [Bool.and_eq_true] at h
            exact absurd ⟨of_decide_eq_true h.1, h.2⟩ z
        rw [zb]
        refine iteF (q _ G3 (eX.trans e3) ?_)
        rw [er2]
        exact .non
end
end KB
set_option Elab.async false
set_option linter.all false
set_option maxRecDepth 100000
set_option maxHeartbeats 4000000
namespace L2
open PySem PySem.Spec PyProof.Rows
/-- a dict comprehension over a walk -/
theorem dc_it {J : It} {n : Nat} {G : Hp → Prop} {Y : Nat → Hp → V → Hp → Prop} (w : Walk J n G Y) {g : TG} {tt : TT} {tk tv : TE} {vs : List Nat} {σ : St} {H1 : Hp} {D : Addr} {Qd : Hp → Prop} (Pv : Nat → Hp → Prop) (start : Pv 0 (upd H1 D (.dK []))) (stands : ∀ i H, i ≤ n → Pv i H → G H)
    (turn : ∀ i x H H', i < n → Pv i H → Y i H x H' → g x (wipe σ vs) H' fun σ2 H2 => wipe σ2 vs = wipe σ vs ∧ tt σ2 H2 fun b H3 =>
      if b = true then tk σ2 H3 fun y H4 => tv σ2 H4 fun z H5 => ∃ kvs k, y = kV k ∧ H5 D = some (.dK kvs) ∧ kvs.length < sizeLine ∧ Pv (i + 1) (upd H5 D (.dK (putK kvs k z))) else Pv (i + 1) H3) (done : ∀ H, Pv n H → Qd H) :
    ∃ W : Nat → Nat → Hp → Prop, (∃ m, W 0 m (upd H1 D (.dK []))) ∧ ∀ i m H, W i m H → (J.stop i H ∧ Qd H) ∨ (J.go i H ∧ ∃ Nx : Hp → Prop, (∀ H', Nx H' → ∃ m', m' < m ∧ W (i + 1) m' H') ∧
      ∀ x H', J.yld i H x H' → g x (wipe σ vs) H' fun σ2 H2 => wipe σ2 vs = wipe σ vs ∧ tt σ2 H2 fun b H3 =>
        if b = true then tk σ2 H3 fun y H4 => tv σ2 H4 fun z H5 => ∃ kvs k, y = kV k ∧ H5 D = some (.dK kvs) ∧ kvs.length < sizeLine ∧ Nx (upd H5 D (.dK (putK kvs k z))) else Nx H3) := by
  refine ⟨fun i m H => m + i = n ∧ Pv i H, ⟨n, rfl, start⟩, ?_⟩
  rintro i m H ⟨hm, p⟩
  have q := stands i H (by omega) p
  by_cases lt : i < n
  · exact .inr ⟨w.goes i H lt q, Pv (i + 1), fun H' p' => ⟨n - (i + 1), by omega, by omega, p'⟩, fun x H' y => turn i x H H' lt p (w.yields i H x H' lt q y)⟩
  · obtain rfl : i = n := by omega
    exact .inl ⟨w.stops H q, done H p⟩
end L2
namespace Evl
open PySem L2
/-- a list or a tuple that stands -/
def Sq (K : PySem.W.Frag) (H : Hp) (a : Addr) (xs : List V) : Prop := SqL K H a xs ∨ SqT K H a xs
theorem Sq.mono {K : PySem.W.Frag} {H H' : Hp} {a : Addr} {xs : List V} (e : Ex H H') (h : Sq K H a xs) : Sq K H' a xs := h.imp (ex_l e) (ex_t e)
def iSeq (K : PySem.W.Frag) (tl : TE) : TI := fun σ H R => iList K tl σ H R ∨ iTup K tl σ H R
theorem pi_seq {X : Cx} {tg l : Expr} {tl : TE} (hl : PE X l tl) : PI X tg l (iSeq X.K tl) := pi_or (pi_list hl) (pi_tup hl)
section
variable {K : PySem.W.Frag} {σ : L2.St} {H H' : Hp} {ta tb te tx : TE} {t u : TT} {x y z v : V} {D : Ends} {tz : TS}
theorem rv_ixSq {p : Addr} {xs : List V} {i : Int} (h : Sq K H p xs) (ha : atI xs i = some v) : RV (rIx K) (.ref p) (.int i) H v := fun H1 e Q q =>
  match h with
  | .inl h => .inl ⟨p, xs, i, v, rfl, rfl, ex_l e h, ha, q H1 (Ex.refl H1)⟩
  | .inr h => .inr (.inl ⟨p, xs, i, v, rfl, rfl, ex_t e h, ha, q H1 (Ex.refl H1)⟩)
/-- the list that is made, behind i turns -/
def Made {α : Type} (H1 : Hp) (xs : List α) (p : α → Bool) (g : α → V) (Dl : Addr) (i : Nat) (G : Hp) : Prop := H1 Dl = none ∧ Ex H1 G ∧ G Dl = some (.lst (((xs.take i).filter p).map g))
theorem made_turn {α : Type} {H1 G : Hp} {xs : List α} {p : α → Bool} {g : α → V} {Dl : Addr} {i : Nat} {b : α} {σ2 : L2.St} (m : Made H1 xs p g Dl i G) (hz : xs.length ≤ 40000) (eb : xs[i]? = some b) (ht : EvT t σ2 H1 (p b)) (he : p b = true → Ev te σ2 H1 (g b)) :
    t σ2 G fun c H3 => if c = true then te σ2 H3 fun y H4 => ∃ acc, H4 Dl = some (.lst acc) ∧ acc.length < sizeLine ∧ Made H1 xs p g Dl (i + 1) (upd H4 Dl (.lst (acc ++ [y]))) else Made H1 xs p g Dl (i + 1) H3 := by
  obtain ⟨n1, eG, gD⟩ := m
  have nx : (xs.take (i + 1)).filter p = (xs.take i).filter p ++ if p b = true then [b] else [] := by
    rw [List.take_add_one, eb, List.filter_append]
    show _ ++ List.filter p [b] = _
    cases hp : p b <;> simp [hp]
  refine ht G eG _ fun G2 e2 => ?_
  cases hp : p b with
  | true =>
    refine iteT (he hp G2 (eG.trans e2) _ fun G3 e3 => ⟨_, e3 _ _ (e2 _ _ gD), ?_, n1, Ex.mut (eG.trans (e2.trans e3)) n1, ?_⟩)
    · rw [List.length_map]
      exact sz_lt (by have h1 := List.length_filter_le p (xs.take i); have h2 := List.length_take_le i xs; have h3 := (List.getElem?_eq_some_iff.mp eb).1; omega)
    · rw [upd_same, nx, hp, List.map_append]
      rfl
  | false =>
    refine iteF ⟨n1, eG.trans e2, ?_⟩
    rw [nx, hp]
    simpa using e2 _ _ gD
/-- [e for x in xs if t], a list or a tuple that stands -/
theorem el_lcS {α : Type} {a : Addr} {xs : List α} {tl : TE} {j : Nat} {vs : List Nat} (emb : α → V) (p : α → Bool) (g : α → V) (h : Ev tl σ H (.ref a)) (hx : Sq K H a (xs.map emb)) (hz : xs.length ≤ 40000) (hw : ∀ x, wipe ((wipe σ vs).set j (some x)) vs = wipe σ vs)
    (ht : ∀ b ∈ xs, ∀ H1, Ex H H1 → EvT t ((wipe σ vs).set j (some (emb b))) H1 (p b)) (he : ∀ b ∈ xs, p b = true → ∀ H1, Ex H H1 → Ev te ((wipe σ vs).set j (some (emb b))) H1 (g b)) :
    EvL (tLc (iSeq K tl) (gName j) t te vs) σ H ((xs.filter p).map g) := fun H0 e0 Q q => by
  have len : (xs.map emb).length = xs.length := List.length_map _
  have fin : ∀ {H1 : Hp} {Dl : Addr} {G : Hp}, Ex H0 H1 → Made H1 xs p g Dl (xs.map emb).length G → Q (.ref Dl) G := fun e1 m => by
    obtain ⟨n1, eG, gD⟩ := m
    rw [len, List.take_length] at gD
    exact q _ _ (fresh_back e1 n1) (e1.trans eG) gD
  have at_ : ∀ {i : Nat} {x : V}, (xs.map emb)[i]? = some x → ∃ b, xs[i]? = some b ∧ b ∈ xs ∧ x = emb b := fun {i x} e => by
    rw [List.getElem?_map] at e
    obtain ⟨b, e1, e2⟩ := Option.map_eq_some_iff.mp e
    exact ⟨b, e1, List.mem_of_getElem? e1, e2.symm⟩
  rcases hx with hL | hT
  · refine .inl (h H0 e0 _ fun H1 e1 => ⟨a, rfl, ⟨_, ex_l (e0.trans e1) hL⟩, fun Dl hD => lc_it (walk_list (K := K) (a := a) (xs := xs.map emb)) (Made H1 xs p g Dl) ⟨hD, Ex.new hD, upd_same⟩ (fun i G _ m => ex_l (e0.trans (e1.trans m.2.1)) hL) ?_ fun G m => fin e1 m⟩)
    rintro i x G _ hi m ⟨rfl, ex⟩
    obtain ⟨b, eb, mb, rfl⟩ := at_ ex
    exact ⟨hw _, made_turn m hz eb (ht b mb H1 (e0.trans e1)) (fun hp => he b mb hp H1 (e0.trans e1))⟩
  · refine .inr (h H0 e0 _ fun H1 e1 => ⟨a, rfl, ⟨_, ex_t (e0.trans e1) hT⟩, fun Dl hD => lc_it (walk_tup (K := K) (a := a) (xs := xs.map emb)) (Made H1 xs p g Dl) ⟨hD, Ex.new hD, upd_same⟩ (fun i G _ m => ex_t (e0.trans (e1.trans m.2.1)) hT) ?_ fun G m => fin e1 m⟩)
    rintro i x G _ hi m ⟨rfl, ex⟩
    obtain ⟨b, eb, mb, rfl⟩ := at_ ex
    exact ⟨hw _, made_turn m hz eb (ht b mb H1 (e0.trans e1)) (fun hp => he b mb hp H1 (e0.trans e1))⟩
def MadeD {α : Type} (H1 : Hp) (xs : List α) (kf : α → Int) (vf : α → V) (Dl : Addr) (i : Nat) (G : Hp) : Prop := H1 Dl = none ∧ Ex H1 G ∧ G Dl = some (.dK ((xs.take i).map fun b => (Sum.inl (kf b), vf b)))
theorem val_no {α : Type} (kf : α → Int) (vf : α → V) (n : Int) : ∀ (xs : List α), n ∉ xs.map kf → valV (xs.map fun b => ((Sum.inl (kf b) : Key), vf b)) (Sum.inl n) = none
  | [], _ => rfl
  | b :: xs, h => by
    rw [List.map_cons, List.mem_cons, not_or] at h
    rw [List.map_cons, valV_neg (fun z => h.1 (Sum.inl.inj z).symm)]
    exact val_no kf vf n xs h.2
theorem madeD_turn {α : Type} {H1 G : Hp} {xs : List α} {kf : α → Int} {vf : α → V} {Dl : Addr} {i : Nat} {b : α} {σ2 : L2.St} (nd : (xs.map kf).Nodup) (m : MadeD H1 xs kf vf Dl i G) (hz : xs.length ≤ 40000) (eb : xs[i]? = some b) (hk : Ev ta σ2 H1 (.int (kf b))) (hv : Ev tb σ2 H1 (vf b)) :
    tYes σ2 G fun c H3 => if c = true then ta σ2 H3 fun y H4 => tb σ2 H4 fun z H5 => ∃ kvs k, y = kV k ∧ H5 Dl = some (.dK kvs) ∧ kvs.length < sizeLine ∧ MadeD H1 xs kf vf Dl (i + 1) (upd H5 Dl (.dK (putK kvs k z))) else MadeD H1 xs kf vf Dl (i + 1) H3 := by
  obtain ⟨n1, eG, gD⟩ := m
  refine (show (fun c H3 => ite (c = true) (ta σ2 H3 fun y H4 => tb σ2 H4 fun z H5 => ∃ kvs k, y = kV k ∧ H5 Dl = some (.dK kvs) ∧ kvs.length < sizeLine ∧ MadeD H1 xs kf vf Dl (i + 1) (upd H5 Dl (.dK (putK kvs k z)))) (MadeD H1 xs kf vf Dl (i + 1) H3)) true G from ?_)
  dsimp only
  rw [if_pos rfl]
  refine hk G eG _ fun G2 e2 => hv G2 (eG.trans e2) _ fun G3 e3 => ⟨_, Sum.inl (kf b), rfl, e3 _ _ (e2 _ _ gD), ?_, n1, Ex.mut (eG.trans (e2.trans e3)) n1, ?_⟩
  · rw [List.length_map]
    exact sz_lt (by have h2 := List.length_take_le i xs; have h3 := (List.getElem?_eq_some_iff.mp eb).1; omega)
  · have no : kf b ∉ (xs.take i).map kf := fun mb => by
      rw [KB.split_at eb, List.map_append, List.map_cons, List.nodup_append] at nd
      exact nd.2.2 _ mb _ List.mem_cons_self rfl
    rw [upd_same, putK_new _ (val_no kf vf _ _ no), List.take_add_one, eb, List.map_append]
    rfl
/-- {k: v for x in xs}, a list or a tuple that stands, the keys different ints -/
theorem ed_dcS {α : Type} {a : Addr} {xs : List α} {tl : TE} {j : Nat} {vs : List Nat} (emb : α → V) (kf : α → Int) (vf : α → V) (nd : (xs.map kf).Nodup) (h : Ev tl σ H (.ref a)) (hx : Sq K H a (xs.map emb)) (hz : xs.length ≤ 40000) (hw : ∀ x, wipe ((wipe σ vs).set j (some x)) vs = wipe σ vs)
    (hk : ∀ b ∈ xs, ∀ H1, Ex H H1 → Ev ta ((wipe σ vs).set j (some (emb b))) H1 (.int (kf b))) (hv : ∀ b ∈ xs, ∀ H1, Ex H H1 → Ev tb ((wipe σ vs).set j (some (emb b))) H1 (vf b)) :
    EvD (tDc (iSeq K tl) (gName j) tYes ta tb vs) σ H (xs.map fun b => (Sum.inl (kf b), vf b)) := fun H0 e0 Q q => by
  have len : (xs.map emb).length = xs.length := List.length_map _
  have fin : ∀ {H1 : Hp} {Dl : Addr} {G : Hp}, Ex H0 H1 → MadeD H1 xs kf vf Dl (xs.map emb).length G → Q (.ref Dl) G := fun e1 m => by
    obtain ⟨n1, eG, gD⟩ := m
    rw [len, List.take_length] at gD
    exact q _ _ (fresh_back e1 n1) (e1.trans eG) gD
  have at_ : ∀ {i : Nat} {x : V}, (xs.map emb)[i]? = some x → ∃ b, xs[i]? = some b ∧ b ∈ xs ∧ x = emb b := fun {i x} e => by
    rw [List.getElem?_map] at e
    obtain ⟨b, e1, e2⟩ := Option.map_eq_some_iff.mp e
    exact ⟨b, e1, List.mem_of_getElem? e1, e2.symm⟩
  rcases hx with hL | hT
  · refine .inl (h H0 e0 _ fun H1 e1 => ⟨a, rfl, ⟨_, ex_l (e0.trans e1) hL⟩, fun Dl hD => dc_it (walk_list (K := K) (a := a) (xs := xs.map emb)) (MadeD H1 xs kf vf Dl) ⟨hD, Ex.new hD, upd_same⟩ (fun i G _ m => ex_l (e0.trans (e1.trans m.2.1)) hL) ?_ fun G m => fin e1 m⟩)
    rintro i x G _ hi m ⟨rfl, ex⟩
    obtain ⟨b, eb, mb, rfl⟩ := at_ ex
    exact ⟨hw _, madeD_turn nd m hz eb (hk b mb H1 (e0.trans e1)) (hv b mb H1 (e0.trans e1))⟩
  · refine .inr (h H0 e0 _ fun H1 e1 => ⟨a, rfl, ⟨_, ex_t (e0.trans e1) hT⟩, fun Dl hD => dc_it (walk_tup (K := K) (a := a) (xs := xs.map emb)) (MadeD H1 xs kf vf Dl) ⟨hD, Ex.new hD, upd_same⟩ (fun i G _ m => ex_t (e0.trans (e1.trans m.2.1)) hT) ?_ fun G m => fin e1 m⟩)
    rintro i x G _ hi m ⟨rfl, ex⟩
    obtain ⟨b, eb, mb, rfl⟩ := at_ ex
    exact ⟨hw _, madeD_turn nd m hz eb (hk b mb H1 (e0.trans e1)) (hv b mb H1 (e0.trans e1))⟩
end
end Evl
set_option Elab.async false
set_option linter.all false
set_option maxRecDepth 100000
set_option maxHeartbeats 4000000
namespace Evl
open PySem L2
section
variable {K : PySem.W.Frag} {σ : L2.St} {H H' G : Hp} {ta tb te tx : TE} {t u : TT} {x y z v : V} {D : Ends} {tz : TS} {P : V → Hp → Prop}
theorem Ev.toP (h : Ev te σ H v) : EvP te σ H (fun u _ => u = v) := fun H1 e Q q => h H1 e _ fun H2 e2 => q v H2 e2 rfl
theorem EvL.toP {xs : List V} (h : EvL te σ H xs) : EvP te σ H (fun u G => ∃ p, u = .ref p ∧ H p = none ∧ G p = some (.lst xs)) := fun H1 e Q q => h H1 e _ fun p H2 np e2 g => q _ H2 e2 ⟨p, rfl, fresh_back e np, g⟩
theorem EvD.toP {kvs : List (Key × V)} (h : EvD te σ H kvs) : EvP te σ H (fun u G => ∃ p, u = .ref p ∧ H p = none ∧ G p = some (.dK kvs)) := fun H1 e Q q => h H1 e _ fun p H2 np e2 g => q _ H2 e2 ⟨p, rfl, fresh_back e np, g⟩
/-- self.f = e -/
theorem s_fld {f : Str} {p C dx : Addr} {fs : List (Str × V)} {i : Nat} (h : EvP te σ G P) (hi : σ[i]? = some (some (.ref p))) (gp : G p = some (.ins C dx fs)) (c : Cls K C) (n : NoAttr K C f) (hl : fs.length < 1000) (k : ∀ y G1, Ex G G1 → P y G1 → D.nx σ (upd G1 p (.ins C dx (putF f y fs)))) : sFld K (tVar i) te f D σ G :=
  h G (Ex.refl G) _ fun y G1 e1 g => ⟨_, hi, p, C, dx, fs, rfl, e1 _ _ gp, c, n, hl, k y G1 e1 g⟩
theorem q_fld {f : Str} {p C dx : Addr} {fs : List (Str × V)} {i : Nat} (h : EvP te σ G P) (hi : σ[i]? = some (some (.ref p))) (gp : G p = some (.ins C dx fs)) (c : Cls K C) (n : NoAttr K C f) (hl : fs.length < 1000) (k : ∀ y G1, Ex G G1 → P y G1 → tz D σ (upd G1 p (.ins C dx (putF f y fs)))) : tSeq (sFld K (tVar i) te f) tz D σ G :=
  s_fld (D := { D with nx := tz D }) h hi gp c n hl k
theorem q_dput {d : Addr} {kvs : List (Key × V)} {i : Int} (hv : Ev te σ H v) (hd : Ev ta σ H (.ref d)) (hk : Ev tb σ H (.int i)) (e0 : H d = some (.dK kvs)) (hl : kvs.length < 100000) (k : ∀ H1, Ex H H1 → tz D σ (upd H1 d (.dK (putK kvs (Sum.inl i) v)))) : tSeq (sDPut ta tb te) tz D σ H := s_dput (D := { D with nx := tz D }) hv hd hk e0 hl k
end
end Evl
namespace KB
open PySem PySem.Spec PyProof.Rows L2 Evl
abbrev sInit : Stmt := inClass (topS 2) 0
abbrev nInit : List Str := ["self", "image", "processes", "row"]
theorem scInit : FnScope nInit ["self", "image"] (defScope sInit) := ⟨rfl, rfl, rfl, by decide +kernel, rfl, by decide +kernel, by decide +kernel⟩
/-- what is not p stays -/
def Off (p : Addr) (H H' : Hp) : Prop := ∀ b o, b ≠ p → H b = some o → H' b = some o
theorem Off.ex {p : Addr} {H G G' : Hp} (a : Off p H G) (e : Ex G G') : Off p H G' := fun b o n h => e _ _ (a b o n h)
theorem Off.put {p : Addr} {H G : Hp} {o : HO} (a : Off p H G) : Off p H (upd G p o) := fun b u n h => by rw [upd_ne n]; exact a b u n h
/-- an image: tuples or lists -/
def ImgAt (H : Hp) (v : V) (M : Fam) : Prop := ∃ (a : Addr) (xs : List V) (b : Addr) (L : List (Rw × V)), v = .ref a ∧ (H a = some (.tup xs) ∨ H a = some (.lst xs)) ∧ xs[0]? = some (.ref b) ∧ (H b = some (.tup (L.map (·.2))) ∨ H b = some (.lst (L.map (·.2)))) ∧ L.map (·.1) = M ∧ ∀ q ∈ L, RowAt H q.2 q.1
theorem ImgAt.mono {H H' : Hp} {v : V} {M : Fam} (e : Ex H H') (h : ImgAt H v M) : ImgAt H' v M := by
  obtain ⟨a, xs, b, L, h1, h2, h3, h4, h5, h6⟩ := h
  exact ⟨a, xs, b, L, h1, h2.imp (e _ _) (e _ _), h3, h4.imp (e _ _) (e _ _), h5, fun q m => (h6 q m).mono e⟩
def spInit (C : Addr) : Sp := fun vs H Q _ => ∃ (p dx : Addr) (img : V) (M : Fam), vs = [.ref p, img] ∧ H p = some (.ins C dx []) ∧ ImgAt H img M ∧ WF M ∧ ∀ H', Off p H H' → Kn H' C p M → Q .non H'
theorem sq_any {K : PySem.W.Frag} {H : Hp} {a : Addr} {xs : List V} (h : H a = some (.tup xs) ∨ H a = some (.lst xs)) : Sq K H a xs := h.elim (fun h => .inr (st_of h)) fun h => .inl (sq_of h)
theorem row_ix {K : PySem.W.Frag} {G : Hp} {σ : L2.St} {v : V} {r : Rw} {i : Nat} {z : V} (h : RowAt G v r) (j : Nat) (hj : σ[j]? = some (some v))
    (hz : (i = 0 ∧ z = .int r.n) ∨ (i = 1 ∧ z = if r.up = 1 then .non else .int r.up) ∨ (i = 2 ∧ z = .int r.s) ∨ (i = 3 ∧ z = .int r.g) ∨ (i = 4 ∧ z = .bl r.ad) ∨ (i = 5 ∧ z = .str (wordOf r.w))) : Ev (tOp (rIx K) (tVar j) (tC (.int (i : Int)))) σ G z := by
  obtain ⟨a, xs, rfl, h1, h2, h3, h4, h5, h6, h7, h8⟩ := h
  refine ev_op (ev_var hj) ev_c (rv_ixSq (sq_any h1) (atI_nat ?_))
  rcases hz with ⟨rfl, rfl⟩ | ⟨rfl, rfl⟩ | ⟨rfl, rfl⟩ | ⟨rfl, rfl⟩ | ⟨rfl, rfl⟩ | ⟨rfl, rfl⟩ <;> assumption
theorem val_map {α : Type} (kf : α → Int) (vf : α → V) : ∀ (xs : List α), (xs.map kf).Nodup → ∀ b ∈ xs, valV (xs.map fun b => ((Sum.inl (kf b) : Key), vf b)) (Sum.inl (kf b)) = some (vf b)
  | [], _, b, m => nomatch m
  | x :: xs, nd, b, m => by
    rw [List.map_cons, List.nodup_cons] at nd
    rw [List.map_cons]
    rcases List.mem_cons.mp m with m | m
    · rw [m, valV_pos rfl]
    · rw [valV_neg (fun z => nd.1 (by rw [Sum.inl.inj z]; exact List.mem_map_of_mem m))]
      exact val_map kf vf xs nd.2 b m
theorem look_L {L : List (Rw × V)} {M : Fam} (e : L.map (·.1) = M) {n : Int} (h : n ∈ keys M) : ∃ q ∈ L, q.1.n = n := by
  obtain ⟨r, m, rfl⟩ := List.mem_map.mp h
  rw [← e] at m
  obtain ⟨q, mq, rfl⟩ := List.mem_map.mp m
  exact ⟨q, mq, rfl⟩
section
variable {P : Program} {w : World} {K : PySem.W.Frag} {mg : Str → Option Value} {base : Heap} {f : Addr} {fd : FuncData} {C : Addr}
theorem ok_init {t0 : Tok} (F : Fun K "__init__" "Kin.__init__" sInit f fd) (T : KT K C) (m1 : mg "FIRST" = some (.int 1 t0)) : FnOk P w K mg base CX0 1 f fd ["self", "image"] (spInit C) := by
  refine F.ok scInit (fun vs H Q E h => ?_) (fun cdv A outer s H vs Q E hr h => ?_)
  · obtain ⟨p, dx, img, M, rfl, _⟩ := h
    rfl
  · obtain ⟨p, dx, img, M, rfl, gp, ⟨a, xs, b, L, rfl, ga, xb, gb, eL, rows⟩, W, q⟩ := h
    have hu := hu_of hr
    refine ⟨_, pss_cons (ps_set (i := 2) scInit.nd rfl (.inl rfl) (pe_ix ix_seq (pv 1) pe_int (fun _ _ => rfl)))
      (pss_cons (ps_fld (pv 0) (pe_dc (own := [("row", 3)]) (g := gName 3) (tt := tYes) (tk := tOp (rIx K) (tVar 3) (tC (.int 0))) (tv := tVar 3) rfl scInit.nd (pi_seq (pv 2)) (blkOk_by (N := nInit) (sc := defScope sInit) (by decide +kernel)) (fun _ _ _ _ _ => pg_name (i := 3) scInit.nd rfl (Or.inl rfl)) (fun _ _ _ _ _ => pts_nil) (fun _ _ _ _ _ => pe_ix ix_seq (pv 3) pe_int (fun _ _ => rfl)) (fun _ _ _ _ _ => pv 3)) rfl)
      (pss_cons (ps_fld (pv 0) (pe_lc (own := [("row", 3)]) (g := gName 3) (tt := tYes) (te := tOp (rIx K) (tVar 3) (tC (.int 0))) rfl scInit.nd (pi_seq (pv 2)) (blkOk_by (N := nInit) (sc := defScope sInit) (by decide +kernel)) (fun _ _ _ _ _ => pg_name (i := 3) scInit.nd rfl (Or.inl rfl)) (fun _ _ _ _ _ => pts_nil) (fun _ _ _ _ _ => pe_ix ix_seq (pv 3) pe_int (fun _ _ => rfl))) rfl)
      (pss_cons (ps_fld (pv 0) (pe_dc (own := [("row", 3)]) (g := gName 3) (tt := tYes) (tk := tOp (rIx K) (tVar 3) (tC (.int 0))) (tv := tIf (tTest (tIsN (tOp (rIx K) (tVar 3) (tC (.int 1))))) (tC (.int 1)) (tOp (rIx K) (tVar 3) (tC (.int 1)))) rfl scInit.nd (pi_seq (pv 2)) (blkOk_by (N := nInit) (sc := defScope sInit) (by decide +kernel)) (fun _ _ _ _ _ => pg_name (i := 3) scInit.nd rfl (Or.inl rfl)) (fun _ _ _ _ _ => pts_nil) (fun _ _ _ _ _ => pe_ix ix_seq (pv 3) pe_int (fun _ _ => rfl))
          (fun _ _ _ _ _ => pe_ifExp (pt_cmp (pc_isN (pe_ix ix_seq (pv 3) pe_int (fun _ _ => rfl)))) (pe_glob (v := .int 1) rfl m1 ⟨_, rfl⟩) (pe_ix ix_seq (pv 3) pe_int (fun _ _ => rfl)))) rfl)
      (pss_cons (ps_fld (pv 0) (pe_dc (own := [("row", 3)]) (g := gName 3) (tt := tYes) (tk := tOp (rIx K) (tVar 3) (tC (.int 0))) (tv := tOp (rIx K) (tVar 3) (tC (.int 2))) rfl scInit.nd (pi_seq (pv 2)) (blkOk_by (N := nInit) (sc := defScope sInit) (by decide +kernel)) (fun _ _ _ _ _ => pg_name (i := 3) scInit.nd rfl (Or.inl rfl)) (fun _ _ _ _ _ => pts_nil) (fun _ _ _ _ _ => pe_ix ix_seq (pv 3) pe_int (fun _ _ => rfl)) (fun _ _ _ _ _ => pe_ix ix_seq (pv 3) pe_int (fun _ _ => rfl))) rfl)
      (pss_cons (ps_fld (pv 0) (pe_dc (own := [("row", 3)]) (g := gName 3) (tt := tYes) (tk := tOp (rIx K) (tVar 3) (tC (.int 0))) (tv := tOp (rIx K) (tVar 3) (tC (.int 3))) rfl scInit.nd (pi_seq (pv 2)) (blkOk_by (N := nInit) (sc := defScope sInit) (by decide +kernel)) (fun _ _ _ _ _ => pg_name (i := 3) scInit.nd rfl (Or.inl rfl)) (fun _ _ _ _ _ => pts_nil) (fun _ _ _ _ _ => pe_ix ix_seq (pv 3) pe_int (fun _ _ => rfl)) (fun _ _ _ _ _ => pe_ix ix_seq (pv 3) pe_int (fun _ _ => rfl))) rfl)
      (pss_cons (ps_fld (pv 0) (pe_dc (own := [("row", 3)]) (g := gName 3) (tt := tYes) (tk := tOp (rIx K) (tVar 3) (tC (.int 0))) (tv := tOp (rIx K) (tVar 3) (tC (.int 4))) rfl scInit.nd (pi_seq (pv 2)) (blkOk_by (N := nInit) (sc := defScope sInit) (by decide +kernel)) (fun _ _ _ _ _ => pg_name (i := 3) scInit.nd rfl (Or.inl rfl)) (fun _ _ _ _ _ => pts_nil) (fun _ _ _ _ _ => pe_ix ix_seq (pv 3) pe_int (fun _ _ => rfl)) (fun _ _ _ _ _ => pe_ix ix_seq (pv 3) pe_int (fun _ _ => rfl))) rfl)
      (pss_cons (ps_dput hu (pe_fld (pv 0) rfl) (pe_glob (v := .int 1) rfl m1 ⟨_, rfl⟩) (pe_glob (v := .int 1) rfl m1 ⟨_, rfl⟩) rfl)
      (pss_cons (ps_dput hu (pe_fld (pv 0) rfl) (pe_glob (v := .int 1) rfl m1 ⟨_, rfl⟩) (pe_glob (v := .int 1) rfl m1 ⟨_, rfl⟩) rfl)
      (pss_cons (ps_dput hu (pe_fld (pv 0) rfl) (pe_glob (v := .int 1) rfl m1 ⟨_, rfl⟩) pe_bl rfl)
      (pss_one (ps_fld (pv 0) (pe_ix ix_list (pe_lc (own := [("row", 3)]) (g := gName 3) (tt := tTest (tIsN (tOp (rIx K) (tVar 3) (tC (.int 1))))) (te := tOp (rIx K) (tVar 3) (tC (.int 0))) rfl scInit.nd (pi_seq (pv 2)) (blkOk_by (N := nInit) (sc := defScope sInit) (by decide +kernel)) (fun _ _ _ _ _ => pg_name (i := 3) scInit.nd rfl (Or.inl rfl)) (fun _ _ _ _ _ => pts_one (pt_cmp (pc_isN (pe_ix ix_seq (pv 3) pe_int (fun _ _ => rfl))))) (fun _ _ _ _ _ => pe_ix ix_seq (pv 3) pe_int (fun _ _ => rfl))) pe_int (fun _ _ => rfl)) rfl))))))))))), ?_⟩
    have nep : ∀ {c : Addr} {o : HO}, H c = some o → (∀ fs, o ≠ .ins C dx fs) → c ≠ p := fun h n z => by
      rw [z, gp] at h
      exact n _ (Option.some.inj h).symm
    have pa : a ≠ p := ga.elim (fun h => nep h fun _ => by intro z; cases z) fun h => nep h fun _ => by intro z; cases z
    have pb : b ≠ p := gb.elim (fun h => nep h fun _ => by intro z; cases z) fun h => nep h fun _ => by intro z; cases z
    have rowsG : ∀ {G : Hp}, Off p H G → ∀ r ∈ L, RowAt G r.2 r.1 := fun o r m => by
      obtain ⟨c, ys, e1, e2, e3⟩ := rows r m
      have pc : c ≠ p := e2.elim (fun h => nep h fun _ => by intro z; cases z) fun h => nep h fun _ => by intro z; cases z
      exact ⟨c, ys, e1, e2.imp (o _ _ pc) (o _ _ pc), e3⟩
    have procs : ∀ {G : Hp}, Off p H G → Sq K G b (L.map (·.2)) := fun o => sq_any (gb.imp (o _ _ pb) (o _ _ pb))
    have few : L.length ≤ 40000 := by
      have e := congrArg List.length eL
      rw [List.length_map] at e
      have := W.few
      omega
    have nd : (L.map fun r => r.1.n).Nodup := by
      have e : (L.map fun r => r.1.n) = keys M := by
        unfold keys
        rw [← eL, List.map_map]
        rfl
      rw [e]
      exact W.asc.imp fun h => Int.ne_of_lt h
    have inM : ∀ r ∈ L, r.1 ∈ M := fun r m => by rw [← eL]; exact List.mem_map_of_mem (f := fun r : Rw × V => r.1) m
    -- processes
    refine q_asg (ev_op (ev_var rfl) ev_c (rv_ixSq (sq_any ga) (atI_nat (j := 0) xb))) fun G0 e0 => ?_
    have o0 : Off p H G0 := fun c o _ h => e0 _ _ h
    have dcs : ∀ {G : Hp} (o : Off p H G) (tv : TE) (vf : Rw × V → V), (∀ r ∈ L, ∀ H1, Ex G H1 → Ev tv ((wipe [some (.ref p), some (.ref a), some (.ref b), none] [3]).set 3 (some r.2)) H1 (vf r)) →
        EvD (tDc (iSeq K (tVar 2)) (gName 3) tYes (tOp (rIx K) (tVar 3) (tC (.int 0))) tv [3]) [some (.ref p), some (.ref a), some (.ref b), none] G (L.map fun r => (Sum.inl r.1.n, vf r)) := fun o tv vf hv =>
      ed_dcS (fun r : Rw × V => r.2) (fun r => r.1.n) vf nd (ev_var rfl) (procs o) few (fun x => rfl) (fun r m H1 e1 => row_ix (i := 0) (rowsG (o.ex e1) r m) 3 rfl (.inl ⟨rfl, rfl⟩)) hv
    -- rows
    refine q_fld (dcs o0 (tVar 3) (fun r => r.2) fun r m H1 e1 => ev_var rfl).toP rfl (e0 _ _ gp) T.cls T.n1 (by show 0 < 1000; decide) fun y G1 e1 hy => ?_
    obtain ⟨a1, rfl, n1, g1⟩ := hy
    have p1 : a1 ≠ p := fun z => by rw [z, e0 _ _ gp] at n1; cases n1
    have o1 : Off p H (upd G1 p (.ins C dx (putF "rows" (.ref a1) []))) := (o0.ex e1).put
    have i1 : upd G1 p (.ins C dx (putF "rows" (.ref a1) [])) p = some (.ins C dx [("rows", .ref a1)]) := upd_same
    have h1 : upd G1 p (.ins C dx (putF "rows" (.ref a1) [])) a1 = _ := (upd_ne p1).trans g1
    generalize upd G1 p (.ins C dx (putF "rows" (.ref a1) [])) = J1 at o1 i1 h1 ⊢
    have H1_1 := h1
    have lcM := el_lcS (K := K) (te := tOp (rIx K) (tVar 3) (tC (.int 0))) (t := tYes) (tl := tVar 2) (σ := [some (.ref p), some (.ref a), some (.ref b), none]) (j := 3) (vs := [3]) (fun r : Rw × V => r.2) (fun _ => true) (fun r => V.int r.1.n) (ev_var rfl) (procs o1) few (fun x => rfl) (fun _ _ _ _ => et_yes) (fun r m _ H1 e1 => row_ix (i := 0) (rowsG (o1.ex e1) r m) 3 rfl (.inl ⟨rfl, rfl⟩))
    have eM : (L.filter fun _ => true).map (fun r => V.int r.1.n) = (keys M).map V.int := by
      rw [Evl.filter_all]
      unfold keys
      rw [← eL, List.map_map, List.map_map]
      rfl
    rw [eM] at lcM
    refine q_fld lcM.toP rfl i1 T.cls T.n2 (by show 1 < 1000; decide) fun y G2 e2 hy => ?_
    obtain ⟨a2, rfl, n2, g2⟩ := hy
    have p2 : a2 ≠ p := fun z => by rw [z, i1] at n2; cases n2
    have o2 : Off p H (upd G2 p (.ins C dx (putF "members" (.ref a2) [("rows", .ref a1)]))) := (o1.ex e2).put
    have i2 : upd G2 p (.ins C dx (putF "members" (.ref a2) [("rows", .ref a1)])) p = some (.ins C dx [("rows", .ref a1), ("members", .ref a2)]) := upd_same
    replace h1 : upd G2 p (.ins C dx (putF "members" (.ref a2) [("rows", .ref a1)])) a1 = _ := (upd_ne p1).trans (e2 _ _ h1)
    have q2_1 : a2 ≠ a1 := fun z => by
      have hz := n2
      rw [z, H1_1] at hz
      cases hz
    have h2 : upd G2 p (.ins C dx (putF "members" (.ref a2) [("rows", .ref a1)])) a2 = _ := (upd_ne p2).trans g2
    generalize upd G2 p (.ins C dx (putF "members" (.ref a2) [("rows", .ref a1)])) = J2 at o2 i2 h1 h2 ⊢
    have H1_2 := h1
    have H2_2 := h2
    refine q_fld (dcs o2 _ (fun r => .int r.1.up) fun r m H1 e1 => (by
      have R := rowsG (o2.ex e1) r m
      have c := row_ix (K := K) (σ := (wipe [some (.ref p), some (.ref a), some (.ref b), none] [3]).set 3 (some r.2)) (i := 1) R 3 rfl (.inr (.inl ⟨rfl, rfl⟩))
      by_cases z : r.1.up = 1
      · rw [if_pos z] at c
        rw [z]
        exact ev_if (b := true) (et_test (ev_is (ev_isN c) (by rfl))) (fun _ => ev_c) (fun h => nomatch h)
      · rw [if_neg z] at c
        exact ev_if (b := false) (et_test (ev_is (ev_isN c) (by rfl))) (fun h => nomatch h) (fun _ => c))).toP rfl i2 T.cls T.n3 (by show 2 < 1000; decide) fun y G3 e3 hy => ?_
    obtain ⟨a3, rfl, n3, g3⟩ := hy
    have p3 : a3 ≠ p := fun z => by rw [z, i2] at n3; cases n3
    have o3 : Off p H (upd G3 p (.ins C dx (putF "parents" (.ref a3) [("rows", .ref a1), ("members", .ref a2)]))) := (o2.ex e3).put
    have i3 : upd G3 p (.ins C dx (putF "parents" (.ref a3) [("rows", .ref a1), ("members", .ref a2)])) p = some (.ins C dx [("rows", .ref a1), ("members", .ref a2), ("parents", .ref a3)]) := upd_same
    replace h1 : upd G3 p (.ins C dx (putF "parents" (.ref a3) [("rows", .ref a1), ("members", .ref a2)])) a1 = _ := (upd_ne p1).trans (e3 _ _ h1)
    have q3_1 : a3 ≠ a1 := fun z => by
      have hz := n3
      rw [z, H1_2] at hz
      cases hz
    replace h2 : upd G3 p (.ins C dx (putF "parents" (.ref a3) [("rows", .ref a1), ("members", .ref a2)])) a2 = _ := (upd_ne p2).trans (e3 _ _ h2)
    have q3_2 : a3 ≠ a2 := fun z => by
      have hz := n3
      rw [z, H2_2] at hz
      cases hz
    have h3 : upd G3 p (.ins C dx (putF "parents" (.ref a3) [("rows", .ref a1), ("members", .ref a2)])) a3 = _ := (upd_ne p3).trans g3
    generalize upd G3 p (.ins C dx (putF "parents" (.ref a3) [("rows", .ref a1), ("members", .ref a2)])) = J3 at o3 i3 h1 h2 h3 ⊢
    have H1_3 := h1
    have H2_3 := h2
    have H3_3 := h3
    refine q_fld (dcs o3 _ (fun r => .int r.1.s) fun r m H1 e1 => row_ix (i := 2) (rowsG (o3.ex e1) r m) 3 rfl (.inr (.inr (.inl ⟨rfl, rfl⟩)))).toP rfl i3 T.cls T.n4 (by show 3 < 1000; decide) fun y G4 e4 hy => ?_
    obtain ⟨a4, rfl, n4, g4⟩ := hy
    have p4 : a4 ≠ p := fun z => by rw [z, i3] at n4; cases n4
    have o4 : Off p H (upd G4 p (.ins C dx (putF "sessions" (.ref a4) [("rows", .ref a1), ("members", .ref a2), ("parents", .ref a3)]))) := (o3.ex e4).put
    have i4 : upd G4 p (.ins C dx (putF "sessions" (.ref a4) [("rows", .ref a1), ("members", .ref a2), ("parents", .ref a3)])) p = some (.ins C dx [("rows", .ref a1), ("members", .ref a2), ("parents", .ref a3), ("sessions", .ref a4)]) := upd_same
    replace h1 : upd G4 p (.ins C dx (putF "sessions" (.ref a4) [("rows", .ref a1), ("members", .ref a2), ("parents", .ref a3)])) a1 = _ := (upd_ne p1).trans (e4 _ _ h1)
    have q4_1 : a4 ≠ a1 := fun z => by
      have hz := n4
      rw [z, H1_3] at hz
      cases hz
    replace h2 : upd G4 p (.ins C dx (putF "sessions" (.ref a4) [("rows", .ref a1), ("members", .ref a2), ("parents", .ref a3)])) a2 = _ := (upd_ne p2).trans (e4 _ _ h2)
    have q4_2 : a4 ≠ a2 := fun z => by
      have hz := n4
      rw [z, H2_3] at hz
      cases hz
    replace h3 : upd G4 p (.ins C dx (putF "sessions" (.ref a4) [("rows", .ref a1), ("members", .ref a2), ("parents", .ref a3)])) a3 = _ := (upd_ne p3).trans (e4 _ _ h3)
    have q4_3 : a4 ≠ a3 := fun z => by
      have hz := n4
      rw [z, H3_3] at hz
      cases hz
    have h4 : upd G4 p (.ins C dx (putF "sessions" (.ref a4) [("rows", .ref a1), ("members", .ref a2), ("parents", .ref a3)])) a4 = _ := (upd_ne p4).trans g4
    generalize upd G4 p (.ins C dx (putF "sessions" (.ref a4) [("rows", .ref a1), ("members", .ref a2), ("parents", .ref a3)])) = J4 at o4 i4 h1 h2 h3 h4 ⊢
    have H1_4 := h1
    have H2_4 := h2
    have H3_4 := h3
    have H4_4 := h4
    refine q_fld (dcs o4 _ (fun r => .int r.1.g) fun r m H1 e1 => row_ix (i := 3) (rowsG (o4.ex e1) r m) 3 rfl (.inr (.inr (.inr (.inl ⟨rfl, rfl⟩))))).toP rfl i4 T.cls T.n5 (by show 4 < 1000; decide) fun y G5 e5 hy => ?_
    obtain ⟨a5, rfl, n5, g5⟩ := hy
    have p5 : a5 ≠ p := fun z => by rw [z, i4] at n5; cases n5
    have o5 : Off p H (upd G5 p (.ins C dx (putF "groups" (.ref a5) [("rows", .ref a1), ("members", .ref a2), ("parents", .ref a3), ("sessions", .ref a4)]))) := (o4.ex e5).put
    have i5 : upd G5 p (.ins C dx (putF "groups" (.ref a5) [("rows", .ref a1), ("members", .ref a2), ("parents", .ref a3), ("sessions", .ref a4)])) p = some (.ins C dx [("rows", .ref a1), ("members", .ref a2), ("parents", .ref a3), ("sessions", .ref a4), ("groups", .ref a5)]) := upd_same
    replace h1 : upd G5 p (.ins C dx (putF "groups" (.ref a5) [("rows", .ref a1), ("members", .ref a2), ("parents", .ref a3), ("sessions", .ref a4)])) a1 = _ := (upd_ne p1).trans (e5 _ _ h1)
    have q5_1 : a5 ≠ a1 := fun z => by
      have hz := n5
      rw [z, H1_4] at hz
      cases hz
    replace h2 : upd G5 p (.ins C dx (putF "groups" (.ref a5) [("rows", .ref a1), ("members", .ref a2), ("parents", .ref a3), ("sessions", .ref a4)])) a2 = _ := (upd_ne p2).trans (e5 _ _ h2)
    have q5_2 : a5 ≠ a2 := fun z => by
      have hz := n5
      rw [z, H2_4] at hz
      cases hz
    replace h3 : upd G5 p (.ins C dx (putF "groups" (.ref a5) [("rows", .ref a1), ("members", .ref a2), ("parents", .ref a3), ("sessions", .ref a4)])) a3 = _ := (upd_ne p3).trans (e5 _ _ h3)
    have q5_3 : a5 ≠ a3 := fun z => by
      have hz := n5
      rw [z, H3_4] at hz
      cases hz
    replace h4 : upd G5 p (.ins C dx (putF "groups" (.ref a5) [("rows", .ref a1), ("members", .ref a2), ("parents", .ref a3), ("sessions", .ref a4)])) a4 = _ := (upd_ne p4).trans (e5 _ _ h4)
    have q5_4 : a5 ≠ a4 := fun z => by
      have hz := n5
      rw [z, H4_4] at hz
      cases hz
    have h5 : upd G5 p (.ins C dx (putF "groups" (.ref a5) [("rows", .ref a1), ("members", .ref a2), ("parents", .ref a3), ("sessions", .ref a4)])) a5 = _ := (upd_ne p5).trans g5
    generalize upd G5 p (.ins C dx (putF "groups" (.ref a5) [("rows", .ref a1), ("members", .ref a2), ("parents", .ref a3), ("sessions", .ref a4)])) = J5 at o5 i5 h1 h2 h3 h4 h5 ⊢
    have H1_5 := h1
    have H2_5 := h2
    have H3_5 := h3
    have H4_5 := h4
    have H5_5 := h5
    refine q_fld (dcs o5 _ (fun r => .bl r.1.ad) fun r m H1 e1 => row_ix (i := 4) (rowsG (o5.ex e1) r m) 3 rfl (.inr (.inr (.inr (.inr (.inl ⟨rfl, rfl⟩)))))).toP rfl i5 T.cls T.n6 (by show 5 < 1000; decide) fun y G6 e6 hy => ?_
    obtain ⟨a6, rfl, n6, g6⟩ := hy
    have p6 : a6 ≠ p := fun z => by rw [z, i5] at n6; cases n6
    have o6 : Off p H (upd G6 p (.ins C dx (putF "adopting" (.ref a6) [("rows", .ref a1), ("members", .ref a2), ("parents", .ref a3), ("sessions", .ref a4), ("groups", .ref a5)]))) := (o5.ex e6).put
    have i6 : upd G6 p (.ins C dx (putF "adopting" (.ref a6) [("rows", .ref a1), ("members", .ref a2), ("parents", .ref a3), ("sessions", .ref a4), ("groups", .ref a5)])) p = some (.ins C dx [("rows", .ref a1), ("members", .ref a2), ("parents", .ref a3), ("sessions", .ref a4), ("groups", .ref a5), ("adopting", .ref a6)]) := upd_same
    replace h1 : upd G6 p (.ins C dx (putF "adopting" (.ref a6) [("rows", .ref a1), ("members", .ref a2), ("parents", .ref a3), ("sessions", .ref a4), ("groups", .ref a5)])) a1 = _ := (upd_ne p1).trans (e6 _ _ h1)
    have q6_1 : a6 ≠ a1 := fun z => by
      have hz := n6
      rw [z, H1_5] at hz
      cases hz
    replace h2 : upd G6 p (.ins C dx (putF "adopting" (.ref a6) [("rows", .ref a1), ("members", .ref a2), ("parents", .ref a3), ("sessions", .ref a4), ("groups", .ref a5)])) a2 = _ := (upd_ne p2).trans (e6 _ _ h2)
    have q6_2 : a6 ≠ a2 := fun z => by
      have hz := n6
      rw [z, H2_5] at hz
      cases hz
    replace h3 : upd G6 p (.ins C dx (putF "adopting" (.ref a6) [("rows", .ref a1), ("members", .ref a2), ("parents", .ref a3), ("sessions", .ref a4), ("groups", .ref a5)])) a3 = _ := (upd_ne p3).trans (e6 _ _ h3)
    have q6_3 : a6 ≠ a3 := fun z => by
      have hz := n6
      rw [z, H3_5] at hz
      cases hz
    replace h4 : upd G6 p (.ins C dx (putF "adopting" (.ref a6) [("rows", .ref a1), ("members", .ref a2), ("parents", .ref a3), ("sessions", .ref a4), ("groups", .ref a5)])) a4 = _ := (upd_ne p4).trans (e6 _ _ h4)
    have q6_4 : a6 ≠ a4 := fun z => by
      have hz := n6
      rw [z, H4_5] at hz
      cases hz
    replace h5 : upd G6 p (.ins C dx (putF "adopting" (.ref a6) [("rows", .ref a1), ("members", .ref a2), ("parents", .ref a3), ("sessions", .ref a4), ("groups", .ref a5)])) a5 = _ := (upd_ne p5).trans (e6 _ _ h5)
    have q6_5 : a6 ≠ a5 := fun z => by
      have hz := n6
      rw [z, H5_5] at hz
      cases hz
    have h6 : upd G6 p (.ins C dx (putF "adopting" (.ref a6) [("rows", .ref a1), ("members", .ref a2), ("parents", .ref a3), ("sessions", .ref a4), ("groups", .ref a5)])) a6 = _ := (upd_ne p6).trans g6
    generalize upd G6 p (.ins C dx (putF "adopting" (.ref a6) [("rows", .ref a1), ("members", .ref a2), ("parents", .ref a3), ("sessions", .ref a4), ("groups", .ref a5)])) = J6 at o6 i6 h1 h2 h3 h4 h5 h6 ⊢
    have H1_6 := h1
    have H2_6 := h2
    have H3_6 := h3
    have H4_6 := h4
    have H5_6 := h5
    have H6_6 := h6
    -- the first process
    refine q_dput ev_c (ev_fld (ev_var rfl) i6 T.cls T.n4 rfl) ev_c h4 (by rw [List.length_map]; omega) fun G7 e7 => ?_
    have s4 : ∀ {c : Addr} {o : HO}, c ≠ a4 → J6 c = some o → upd G7 a4 (.dK (putK (L.map fun r => ((Sum.inl r.1.n : Key), V.int r.1.s)) (Sum.inl 1) (.int 1))) c = some o := fun z h => (upd_ne z).trans (e7 _ _ h)
    have o7 : Off p H (upd G7 a4 (.dK (putK (L.map fun r => ((Sum.inl r.1.n : Key), V.int r.1.s)) (Sum.inl 1) (.int 1)))) := fun c o nc h => s4 (fun z => by rw [z] at h; exact absurd (o3 _ _ p4 h) (by rw [n4]; exact fun w => nomatch w)) (o6 c o nc h)
    have h4' : upd G7 a4 (.dK (putK (L.map fun r => ((Sum.inl r.1.n : Key), V.int r.1.s)) (Sum.inl 1) (.int 1))) a4 = _ := upd_same
    replace i6 := s4 p4.symm i6
    replace h1 := s4 q4_1.symm h1
    replace h2 := s4 q4_2.symm h2
    replace h3 := s4 q4_3.symm h3
    replace h5 := s4 q5_4 h5
    replace h6 := s4 q6_4 h6
    clear s4
    generalize upd G7 a4 (.dK (putK (L.map fun r => ((Sum.inl r.1.n : Key), V.int r.1.s)) (Sum.inl 1) (.int 1))) = J7 at o7 h4' i6 h1 h2 h3 h5 h6 ⊢
    refine q_dput ev_c (ev_fld (ev_var rfl) i6 T.cls T.n5 rfl) ev_c h5 (by rw [List.length_map]; omega) fun G8 e8 => ?_
    have s5 : ∀ {c : Addr} {o : HO}, c ≠ a5 → J7 c = some o → upd G8 a5 (.dK (putK (L.map fun r => ((Sum.inl r.1.n : Key), V.int r.1.g)) (Sum.inl 1) (.int 1))) c = some o := fun z h => (upd_ne z).trans (e8 _ _ h)
    have o8 : Off p H (upd G8 a5 (.dK (putK (L.map fun r => ((Sum.inl r.1.n : Key), V.int r.1.g)) (Sum.inl 1) (.int 1)))) := fun c o nc h => s5 (fun z => by rw [z] at h; exact absurd (o4 _ _ p5 h) (by rw [n5]; exact fun w => nomatch w)) (o7 c o nc h)
    have h5' : upd G8 a5 (.dK (putK (L.map fun r => ((Sum.inl r.1.n : Key), V.int r.1.g)) (Sum.inl 1) (.int 1))) a5 = _ := upd_same
    replace i6 := s5 p5.symm i6
    replace h1 := s5 q5_1.symm h1
    replace h2 := s5 q5_2.symm h2
    replace h3 := s5 q5_3.symm h3
    replace h4' := s5 q5_4.symm h4'
    replace h6 := s5 q6_5 h6
    clear s5
    generalize upd G8 a5 (.dK (putK (L.map fun r => ((Sum.inl r.1.n : Key), V.int r.1.g)) (Sum.inl 1) (.int 1))) = J8 at o8 h4' h5' i6 h1 h2 h3 h6 ⊢
    refine q_dput ev_c (ev_fld (ev_var rfl) i6 T.cls T.n6 rfl) ev_c h6 (by rw [List.length_map]; omega) fun G9 e9 => ?_
    have s6 : ∀ {c : Addr} {o : HO}, c ≠ a6 → J8 c = some o → upd G9 a6 (.dK (putK (L.map fun r => ((Sum.inl r.1.n : Key), V.bl r.1.ad)) (Sum.inl 1) (.bl true))) c = some o := fun z h => (upd_ne z).trans (e9 _ _ h)
    have o9 : Off p H (upd G9 a6 (.dK (putK (L.map fun r => ((Sum.inl r.1.n : Key), V.bl r.1.ad)) (Sum.inl 1) (.bl true)))) := fun c o nc h => s6 (fun z => by rw [z] at h; exact absurd (o5 _ _ p6 h) (by rw [n6]; exact fun w => nomatch w)) (o8 c o nc h)
    have h6' : upd G9 a6 (.dK (putK (L.map fun r => ((Sum.inl r.1.n : Key), V.bl r.1.ad)) (Sum.inl 1) (.bl true))) a6 = _ := upd_same
    replace i6 := s6 p6.symm i6
    replace h1 := s6 q6_1.symm h1
    replace h2 := s6 q6_2.symm h2
    replace h3 := s6 q6_3.symm h3
    replace h4' := s6 q6_4.symm h4'
    replace h5' := s6 q6_5.symm h5'
    clear s6
    generalize upd G9 a6 (.dK (putK (L.map fun r => ((Sum.inl r.1.n : Key), V.bl r.1.ad)) (Sum.inl 1) (.bl true))) = J9 at o9 h4' h5' h6' i6 h1 h2 h3 ⊢
    -- the root
    have lcR := el_lcS (K := K) (te := tOp (rIx K) (tVar 3) (tC (.int 0))) (t := tTest (tIsN (tOp (rIx K) (tVar 3) (tC (.int 1))))) (tl := tVar 2) (σ := [some (.ref p), some (.ref a), some (.ref b), none]) (j := 3) (vs := [3]) (fun r : Rw × V => r.2) (fun r => decide (r.1.up = 1)) (fun r => V.int r.1.n) (ev_var rfl) (procs o9) few (fun x => rfl)
      (fun r m H1 e1 => (by
        have c := row_ix (K := K) (σ := (wipe [some (.ref p), some (.ref a), some (.ref b), none] [3]).set 3 (some r.2)) (i := 1) (rowsG (o9.ex e1) r m) 3 rfl (.inr (.inl ⟨rfl, rfl⟩))
        by_cases z : r.1.up = 1
        · rw [if_pos z] at c
          rw [decide_eq_true z]
          exact et_test (ev_is (ev_isN c) (by rfl))
        · rw [if_neg z] at c
          rw [decide_eq_false z]
          exact et_test (ev_is (ev_isN c) (by rfl)))) (fun r m _ H1 e1 => row_ix (i := 0) (rowsG (o9.ex e1) r m) 3 rfl (.inl ⟨rfl, rfl⟩))
    obtain ⟨root, mr, hroot⟩ := W.root
    obtain ⟨r0, rest, er⟩ : ∃ r0 rest, L.filter (fun r => decide (r.1.up = 1)) = r0 :: rest := by
      obtain ⟨r, m, e⟩ := look_L eL mr
      have u : r.1.up = 1 := by
        rw [← W.up (inM r m), e]
        exact (hroot root mr).mpr rfl
      have mf : r ∈ L.filter fun r => decide (r.1.up = 1) := List.mem_filter.mpr ⟨m, decide_eq_true u⟩
      cases z : L.filter fun r => decide (r.1.up = 1) with
      | nil => rw [z] at mf; cases mf
      | cons r0 rest => exact ⟨r0, rest, rfl⟩
    have m0 := List.mem_filter.mp (show r0 ∈ L.filter fun r => decide (r.1.up = 1) by rw [er]; exact List.mem_cons_self)
    have k0 : r0.1.n ∈ keys M := List.mem_map_of_mem (f := fun r : Rw => r.n) (inM r0 m0.1)
    have eroot : r0.1.n = root := (hroot _ k0).mp (by rw [W.up (inM r0 m0.1)]; exact of_decide_eq_true m0.2)
    rw [er] at lcR
    refine s_fld (ev_opL1 lcR (fun H1 e1 => ev_c) (fun c H1 hc _ => rv_ix0 (sq_of hc))).toP rfl i6 T.cls T.n7 (by show 6 < 1000; decide) fun y G10 e10 hy => ?_
    subst hy
    have st : ∀ {c : Addr} {o : HO}, c ≠ p → J9 c = some o → upd G10 p (.ins C dx (putF "root" (.int r0.1.n) [("rows", .ref a1), ("members", .ref a2), ("parents", .ref a3), ("sessions", .ref a4), ("groups", .ref a5), ("adopting", .ref a6)])) c = some o := fun z h => (upd_ne z).trans (e10 _ _ h)
    have kv1 : ∀ n, n ∈ keys M → ∃ r ∈ L, r.1.n = n := fun n h => look_L eL h
    have no1 : ∀ n, n ∉ keys M → n ∉ L.map fun r => r.1.n := fun n h m => by
      obtain ⟨r, mr, e⟩ := List.mem_map.mp m
      exact h (by rw [← e]; exact List.mem_map_of_mem (f := fun r : Rw => r.n) (inM r mr))
    refine q _ ((o9.ex e10).put) ⟨dx, a1, a2, a3, a4, a5, a6, r0.1.n, _, _, _, _, _, upd_same, st p1 h1, st p2 h2, st p3 h3, st p4 h4', st p5 h5', st p6 h6', fun n => ?_, fun r m => ?_, fun n m => ?_, fun n m => ?_, fun n m => ?_, fun n m => ?_, k0, fun n m => ?_⟩
    · by_cases h : n ∈ keys M
      · obtain ⟨r, mr, rfl⟩ := kv1 n h
        rw [val_map (fun r : Rw × V => r.1.n) (fun r => r.2) L nd r mr, decide_eq_true h]
        rfl
      · rw [val_no (fun r : Rw × V => r.1.n) (fun r => r.2) n L (no1 n h), decide_eq_false h]
        rfl
    · obtain ⟨r', mr, e⟩ := List.mem_map.mp (show r ∈ L.map (·.1) by rw [eL]; exact m)
      subst e
      exact ⟨r'.2, val_map (fun r : Rw × V => r.1.n) (fun r => r.2) L nd r' mr, rowsG ((o9.ex e10).put) r' mr⟩
    · obtain ⟨r, mr, rfl⟩ := kv1 n m
      rw [val_map (fun r : Rw × V => r.1.n) (fun r => .int r.1.up) L nd r mr, W.up (inM r mr)]
    · rw [valV_put]
      by_cases z : n = 1
      · rw [if_pos (by rw [z]), z, ses1 W]
      · rw [if_neg (fun c => z (Sum.inl.inj c))]
        obtain ⟨r, mr, rfl⟩ := kv1 n (m.resolve_left z)
        rw [val_map (fun r : Rw × V => r.1.n) (fun r => .int r.1.s) L nd r mr, W.ses (inM r mr)]
    · rw [valV_put]
      by_cases z : n = 1
      · rw [if_pos (by rw [z]), z, grp1 W]
      · rw [if_neg (fun c => z (Sum.inl.inj c))]
        obtain ⟨r, mr, rfl⟩ := kv1 n (m.resolve_left z)
        rw [val_map (fun r : Rw × V => r.1.n) (fun r => .int r.1.g) L nd r mr, W.grp (inM r mr)]
    · rw [valV_put]
      by_cases z : n = 1
      · rw [if_pos (by rw [z]), z, ado1 W]
      · rw [if_neg (fun c => z (Sum.inl.inj c))]
        obtain ⟨r, mr, rfl⟩ := kv1 n (m.resolve_left z)
        rw [val_map (fun r : Rw × V => r.1.n) (fun r => .bl r.1.ad) L nd r mr, W.ado (inM r mr)]
    · rw [eroot, Bool.eq_iff_iff, decide_eq_true_iff, decide_eq_true_iff]
      exact (hroot n m).symm
end
end KB
set_option Elab.async false
set_option linter.all false
set_option maxRecDepth 100000
set_option maxHeartbeats 4000000
namespace KB
open PySem PySem.Spec PyProof.Rows L2 Evl
abbrev sFirstR : Stmt := topS 26
abbrev sBar : Stmt := topS 27
theorem scFirstR : FnScope ["kin", "needed", "number", "row"] ["kin"] (defScope sFirstR) := ⟨rfl, rfl, rfl, by decide +kernel, rfl, by decide +kernel, by decide +kernel⟩
theorem scBar : FnScope ["image", "kin", "reason"] ["image"] (defScope sBar) := ⟨rfl, rfl, rfl, by decide +kernel, rfl, by decide +kernel, by decide +kernel⟩
def spFirstR (C : Addr) : Sp := fun vs H Q _ => ∃ k M, vs = [.ref k] ∧ Kn H C k M ∧ WF M ∧ RetD (optD (firstR M)) H Q
def spBar : Sp := fun vs H Q _ => ∃ img M, vs = [img] ∧ ImgAt H img M ∧ WF M ∧ RetD (optD (barM M)) H Q
section
variable {P : Program} {w : World} {K : PySem.W.Frag} {mg : Str → Option Value} {base : Heap} {f fI fN fR fS fG : Addr} {fd dI dN dR dS dG : FuncData} {C : Addr}
theorem ok_firstR (F : Fun K "first_ring" "first_ring" sFirstR f fd) (T : KT K C)
    (GN : FnOk P w K mg base CX0 4 fN dN ["kin"] (spNeeds C)) (bN : Binds K dN ["kin"] []) (kN : PySem.W.keepIn K (.ref fN) = true) (mN : mg "needs" = some (.ref fN))
    (GR : FnOk P w K mg base CX0 1 fR dR ["needed", "number"] spRing) (bR : Binds K dR ["needed", "number"] []) (kR : PySem.W.keepIn K (.ref fR) = true) (mR : mg "ring_from" = some (.ref fR)) :
    FnOk P w K mg base CX0 5 f fd ["kin"] (spFirstR C) := by
  refine F.ok scFirstR (fun vs H Q E h => ?_) (fun cdv A outer s H vs Q E hr h => ?_)
  · obtain ⟨k, M, rfl, _⟩ := h
    rfl
  · obtain ⟨k, M, rfl, N, W, q⟩ := h
    have h1 : Room 1 _ := hr.mono (by decide)
    refine ⟨_, pss_cons (ps_set (i := 1) scFirstR.nd rfl (.inl rfl) (pe_call GN hr rfl mN kN bN .nil pass0 (pa_cons (pv 0) pa_nil)))
      (pss_cons (ps_for PassesOwn.never rfl (pi_list (pe_fld (pv 0) rfl)) (pg_name (i := 2) scFirstR.nd rfl (.inl rfl))
        (pss_cons (ps_set (i := 3) scFirstR.nd rfl (.inl rfl) (pe_call GR h1 rfl mR kR bR .nil pass0 (pa_cons (pv 1) (pa_cons (pv 2) pa_nil))))
        (pss_one (ps_if (pt_cmp (pc_notN (pv 3))) (pss_one (ps_ret (pe_tup (pa_cons pe_str (pa_cons (pv 3) pa_nil))))) pss_nil))))
      (pss_one (ps_ret pe_non))), ?_⟩
    have cN : SpP (spNeeds C) ([.ref k] ++ []) H (fun v G => ∃ d, v = .ref d ∧ Nd G d M) := fun H1 e1 Q q E => ⟨k, M, rfl, N.mono e1, W, fun d H' e h => q _ H' e ⟨d, rfl, h⟩⟩
    refine q_asgP (ep_call (ea_cons (ev_var rfl) ea_nil) cN) fun v H1 e1 hv => ?_
    obtain ⟨d, rfl, ND⟩ := hv
    have N1 := N.mono e1
    obtain ⟨a, ea, la⟩ := kn_members (ta := tVar 0) (σ := [some (.ref k), some (.ref d), none, none]) T N1 (ev_var (i := 0) rfl)
    refine q_forLn (K := K) ea la (fun j σ G => (∃ y z, σ = [some (.ref k), some (.ref d), y, z]) ∧ Ex H1 G ∧ ∀ n ∈ (keys M).take j, ring M n = none) (fun H2 e2 => ⟨⟨_, _, rfl⟩, e2, fun n m => nomatch m⟩) (fun j σ G _ g => ex_l g.2.1 la) ?_ ?_
    · rintro j x σ G hj ⟨⟨y, z, rfl⟩, e2, j0⟩
      obtain ⟨n, en, rfl⟩ := ints_at hj
      have ND2 := ND.mono e2
      have cR : SpX spRing ([.ref d, .int n] ++ []) G (rowD (ring M n)) := fun H3 e3 Q q E => ⟨d, M, n, rfl, ND2.mono e3, W, q⟩
      refine q_asgX (ex_call (ea_cons (ev_var rfl) (ea_cons (ev_var rfl) ea_nil)) cR) fun v G2 e3 dv => ?_
      refine s_if (et_test (ev_is (ev_notN (ev_var rfl)) (by rw [dx_row dv]))) (fun hb G3 e4 => ?_) (fun hb G3 e4 => ?_)
      · refine s_retU (eu_tup (ea_cons ev_c (ea_cons (ev_var rfl) ea_nil)) (by show 2 ≤ 100000; omega)) fun t G4 nt e5 g5 => ?_
        obtain ⟨row, hrow⟩ : ∃ row, ring M n = some row := by
          cases z : ring M n with
          | none => rw [z] at hb; cases hb
          | some row => exact ⟨row, rfl⟩
        have hd : firstR M = some (.ring row) := by
          unfold firstR
          rw [List.head?_map, head_fm en (fun y m => j0 y m) hrow]
          rfl
        rw [hrow] at dv
        refine q _ G4 (((e1.trans e2).trans e3).trans (e4.trans e5)) ?_
        rw [hd]
        exact .tup g5 (.cons (.str _) (.cons (dv.mono (e4.trans e5)) .nil))
      · have hn : ring M n = none := by
          cases z : ring M n with
          | none => rfl
          | some row => rw [z] at hb; cases hb
        refine ⟨⟨_, _, rfl⟩, e2.trans (e3.trans e4), fun y m => ?_⟩
        rcases mem_take en y m with m | rfl
        · exact j0 y m
        · exact hn
    · rintro σ G ⟨⟨y, z, rfl⟩, e2, j0⟩
      rw [List.length_map, List.take_length] at j0
      refine s_ret ev_c fun H2 e3 => q _ H2 ((e1.trans e2).trans e3) ?_
      have hd : firstR M = none := by
        unfold firstR
        rw [List.filterMap_eq_nil_iff.mpr j0]
        rfl
      rw [hd]
      exact .non
theorem ok_bar (F : Fun K "bar" "bar" sBar f fd) (MK : Mk K C fI) (mC : mg "Kin" = some (.ref C))
    (GI : FnOk P w K mg base CX0 1 fI dI ["self", "image"] (spInit C)) (bI : Binds K dI ["self", "image"] [])
    (GS : FnOk P w K mg base CX0 4 fS dS ["kin"] (spFirstS C)) (bS : Binds K dS ["kin"] []) (kS : PySem.W.keepIn K (.ref fS) = true) (mS : mg "first_session" = some (.ref fS))
    (GG : FnOk P w K mg base CX0 3 fG dG ["kin"] (spFirstG C)) (bG : Binds K dG ["kin"] []) (kG : PySem.W.keepIn K (.ref fG) = true) (mG : mg "first_group" = some (.ref fG))
    (GR : FnOk P w K mg base CX0 5 fR dR ["kin"] (spFirstR C)) (bR : Binds K dR ["kin"] []) (kR : PySem.W.keepIn K (.ref fR) = true) (mR : mg "first_ring" = some (.ref fR)) :
    FnOk P w K mg base CX0 6 f fd ["image"] spBar := by
  refine F.ok scBar (fun vs H Q E h => ?_) (fun cdv A outer s H vs Q E hr h => ?_)
  · obtain ⟨img, M, rfl, _⟩ := h
    rfl
  · obtain ⟨img, M, rfl, I, W, q⟩ := h
    have h2 : Room 2 _ := hr.mono (by decide)
    have h3 : Room 3 _ := hr.mono (by decide)
    have h4 : Room 4 _ := hr.mono (by decide)
    refine ⟨_, pss_cons (ps_set (i := 1) scBar.nd rfl (.inl rfl) (pe_make MK GI h2 rfl mC bI .nil pass0 (pa_cons (pv 0) pa_nil)))
      (pss_cons (ps_set (i := 2) scBar.nd rfl (.inl rfl) (pe_call GS h4 rfl mS kS bS .nil pass0 (pa_cons (pv 1) pa_nil)))
      (pss_cons (ps_if (pt_cmp (pc_isN (pv 2))) (pss_one (ps_set (i := 2) scBar.nd rfl (.inl rfl) (pe_call GG h3 rfl mG kG bG .nil pass0 (pa_cons (pv 1) pa_nil)))) pss_nil)
      (pss_one (ps_ret (pe_ifExp (pt_cmp (pc_isN (pv 2))) (pe_call GR hr rfl mR kR bR .nil pass0 (pa_cons (pv 1) pa_nil)) (pv 2)))))), ?_⟩
    have mk : EvP (tMake C (spInit C) [] E0 (tCons (tVar 0) tNil)) (start ["image", "kin", "reason"] [img]) H (fun v G => ∃ k, v = .ref k ∧ Kn G C k M) := fun H1 e1 Q qq =>
      ⟨_, rfl, fun x dx nx ndx ne => ⟨x, dx, img, M, rfl, upd_same, (I.mono e1).mono ((Ex.new ndx).trans (Ex.new (by rw [upd_ne ne.symm]; exact nx))), W, fun H' o N => ⟨rfl, qq _ H' (fun b u hb => o b u (ne_of_none hb nx) (by rw [upd_ne (ne_of_none hb nx), upd_ne (ne_of_none hb ndx)]; exact hb)) ⟨x, rfl, N⟩⟩⟩⟩
    refine q_asgP mk fun v H1 e1 hv => ?_
    obtain ⟨k, rfl, N⟩ := hv
    have cS : SpX (spFirstS C) ([.ref k] ++ []) H1 (optD (firstS M)) := fun H3 e3 Q q E => ⟨k, M, rfl, N.mono e3, W, q⟩
    refine q_asgX (ex_call (ea_cons (ev_var rfl) ea_nil) cS) fun v H2 e2 dv => ?_
    have last : ∀ (u : V) (o : Option Rs) (H3 : Hp), Ex H2 H3 → Dx H3 u (optD o) → (∀ r, o = some r → barM M = some r) → (o = none → barM M = firstR M) → ∀ D : Ends, D.rt = Q →
        tRet (tIf (tTest (tIsN (tVar 2))) (tCall (spFirstR C) [] E0 (tCons (tVar 1) tNil)) (tVar 2)) D [some img, some (.ref k), some u] H3 := by
      intro u o H3 e3 du h1 h2 D eD
      have tst := et_test (ev_isN (ev_var (σ := [some img, some (.ref k), some u]) (H := H3) (i := 2) rfl))
      rw [dx_non du] at tst
      refine (show tTest (tIsN (tVar 2)) [some img, some (.ref k), some u] H3 (fun c H1 => if c = true then tCall (spFirstR C) [] E0 (tCons (tVar 1) tNil) [some img, some (.ref k), some u] H1 D.rt else tVar 2 [some img, some (.ref k), some u] H1 D.rt) from tst H3 (Ex.refl H3) _ fun H4 e4 => ?_)
      cases o with
      | none =>
        refine iteT ?_
        have cR : SpX (spFirstR C) ([.ref k] ++ []) H4 (optD (firstR M)) := fun H5 e5 Q q E => ⟨k, M, rfl, N.mono (e2.trans (e3.trans (e4.trans e5))), W, q⟩
        refine ex_call (E := E0) (σ := [some img, some (.ref k), some u]) (ea_cons (ev_var rfl) ea_nil) cR H4 (Ex.refl H4) _ fun v H5 e5 dv5 => ?_
        rw [eD]
        refine q v H5 (e1.trans (e2.trans (e3.trans (e4.trans e5)))) ?_
        rw [h2 rfl]
        exact dv5
      | some r =>
        refine iteF ⟨_, rfl, ?_⟩
        rw [eD]
        refine q u H4 (e1.trans (e2.trans (e3.trans e4))) ?_
        rw [h1 r rfl]
        exact du.mono e4
    refine q_when (et_test (ev_is (ev_isN (ev_var rfl)) (by rw [dx_non dv]))) (fun hb H3 e3 => ?_) (fun hb H3 e3 => ?_)
    · have hS : firstS M = none := by
        cases z : firstS M with
        | none => rfl
        | some r => rw [z] at hb; cases hb
      have cG : SpX (spFirstG C) ([.ref k] ++ []) H3 (optD (firstG M)) := fun H5 e5 Q q E => ⟨k, M, rfl, N.mono (e2.trans (e3.trans e5)), W, q⟩
      refine s_asgX (ex_call (ea_cons (ev_var rfl) ea_nil) cG) fun u H4 e4 du => ?_
      refine last u (firstG M) H4 (e3.trans e4) du (fun r hr => ?_) (fun hn => ?_) _ rfl
      · rw [barM_eq, hS, hr]
      · rw [barM_eq, hS, hn]
    · obtain ⟨r, hS⟩ : ∃ r, firstS M = some r := by
        cases z : firstS M with
        | none => rw [z] at hb; cases hb
        | some r => exact ⟨r, rfl⟩
      refine last v (firstS M) H3 e3 (dv.mono e3) (fun r' hr' => ?_) (fun hn => ?_) _ rfl
      · rw [barM_eq, hr']
      · rw [hS] at hn
        cases hn
end
end KB
set_option Elab.async false
set_option linter.all false
set_option maxRecDepth 100000
set_option maxHeartbeats 4000000
namespace KB
open PySem PySem.Spec PyProof.Rows L2 Evl
abbrev sBox : Stmt := topS 30
abbrev sTake : Stmt := topS 31
abbrev sPick : Stmt := topS 32
theorem scBox : FnScope ["_law_script", "_law_k", "_law_cell"] ["_law_script", "_law_k"] (defScope sBox) := ⟨rfl, rfl, rfl, by decide +kernel, rfl, by decide +kernel, by decide +kernel⟩
theorem scTake : FnScope ["_law_box_here", "_law_below", "_law_found", "_law_once"] ["_law_box_here", "_law_below"] (defScope sTake) := ⟨rfl, rfl, rfl, by decide +kernel, rfl, by decide +kernel, by decide +kernel⟩
theorem scPick : FnScope ["_law_box_here", "_law_some"] ["_law_box_here", "_law_some"] (defScope sPick) := ⟨rfl, rfl, rfl, by decide +kernel, rfl, by decide +kernel, by decide +kernel⟩
/-- a source of draws: what is left of a great number, a seed, a count -/
def Src (H : Hp) (p : Addr) (c : Int) : Prop := ∃ a b : Int, H p = some (.lst [.int a, .int b, .int c]) ∧ 0 ≤ a ∧ 0 ≤ b ∧ b < 2 ^ 33 ∧ 0 ≤ c
def spTake : Sp := fun vs H Q _ => ∃ (p : Addr) (c m : Int), vs = [.ref p, .int m] ∧ Src H p c ∧ c < 1000000 ∧ 0 < m ∧ m ≤ 1000000 ∧
  ∀ (r c' : Int) (zs : List V), 0 ≤ r → r < m → c ≤ c' → c' ≤ c + 1 → Src (upd H p (.lst zs)) p c' → Q (.int r) (upd H p (.lst zs))
def spPick : Sp := fun vs H Q _ => ∃ (p l : Addr) (c : Int) (xs : List V), vs = [.ref p, .ref l] ∧ Src H p c ∧ c < 1000000 ∧ l ≠ p ∧ H l = some (.lst xs) ∧ 0 < xs.length ∧ xs.length ≤ 1000 ∧
  ∀ (v : V) (c' : Int) (zs : List V), v ∈ xs → c ≤ c' → c' ≤ c + 1 → Src (upd H p (.lst zs)) p c' → Q v (upd H p (.lst zs))
def spBox (K : PySem.W.Frag) : Sp := fun vs H Q _ => ∃ (l : Addr) (ns : List Int) (k : Nat), vs = [.ref l, .int (k : Int)] ∧ SqL K H l (ns.map V.int) ∧ k < 1000 ∧
  ∀ (p : Addr) (H' : Hp), H p = none → Ex H H' → Src H' p 0 → Q (.ref p) H'
theorem b01 (k : Bool) : (0 : Int) ≤ (if k = true then 1 else 0) ∧ (if k = true then (1 : Int) else 0) ≤ 1 := by
  cases k <;> decide
section
variable {P : Program} {w : World} {K : PySem.W.Frag} {mg : Str → Option Value} {base : Heap} {f fD : Addr} {fd fdD : FuncData}
theorem ok_take (F : Fun K "_law_take" "_law_take" sTake f fd) : FnOk P w K mg base CX0 1 f fd ["_law_box_here", "_law_below"] spTake := by
  refine F.ok scTake (fun vs H Q E h => ?_) (fun cdv A outer s H vs Q E hr h => ?_)
  · obtain ⟨p, c, m, rfl, _⟩ := h
    rfl
  · obtain ⟨p, c, m, rfl, ⟨a, b, hp, ha, hb, hb2, hc⟩, hc2, hm, hm2, q⟩ := h
    refine ⟨_, pss_cons (ps_if (pt_cmpR op_gt (pe_ix ix_list (pv 0) pe_int (fun _ _ => rfl)) pe_int (nomark _))
        (pss_cons (ps_set (i := 2) scTake.nd rfl (.inl rfl) (pe_op op_mod (pe_ix ix_list (pv 0) pe_int (fun _ _ => rfl)) (pv 1)))
        (pss_cons (ps_asg (pe_op op_fdivW (pe_ix ix_list (pv 0) pe_int (fun _ _ => rfl)) (pv 1)) (pg_sub (pv 0) pe_int set_list))
        (pss_one (ps_ret (pv 2))))) pss_nil)
      (pss_cons (ps_asg (pe_op op_add (pe_ix ix_list (pv 0) pe_int (fun _ _ => rfl)) pe_int) (pg_sub (pv 0) pe_int set_list))
      (pss_cons (ps_set (i := 3) scTake.nd rfl (.inl rfl) (pe_op op_mod (pe_op op_pow (pe_op op_add (pe_ix ix_list (pv 0) pe_int (fun _ _ => rfl)) (pe_op op_mul pe_int (pe_ix ix_list (pv 0) pe_int (fun _ _ => rfl)))) pe_int) pe_int))
      (pss_one (ps_ret (pe_op op_mod (pe_op op_fdiv (pe_op op_mod (pe_op op_add (pe_op op_mul (pv 3) (pe_op op_add (pe_op op_mod (pv 3) pe_int) pe_int)) (pe_op op_mul (pe_ix ix_list (pv 0) pe_int (fun _ _ => rfl)) pe_int)) pe_int) pe_int) (pv 1)))))), ?_⟩
    have look : ∀ {H1 : Hp} {a b c : Int}, H1 p = some (.lst [.int a, .int b, .int c]) → SqL K H1 p [.int a, .int b, .int c] := fun e => SqL.of e
    refine ⟨_, rfl, p, _, _, _, rfl, rfl, look hp, rfl, _, _, rfl, rfl, _, rfl, ?_⟩
    refine ite2 (fun h0 => ?_) (fun h0 => ?_)
    · have a1 : (0 : Int) < a := of_decide_eq_true h0
      refine ⟨_, rfl, p, _, _, _, rfl, rfl, look hp, rfl, _, rfl, _, _, rfl, rfl, hm, ?_⟩
      refine ⟨_, rfl, p, _, _, _, rfl, rfl, look hp, rfl, _, rfl, _, _, rfl, rfl, wide_div (b := 50) hm (by omega) (by decide) (by decide), ?_⟩
      refine ⟨_, rfl, p, _, _, 0, rfl, rfl, hp, rfl, _, rfl, ?_⟩
      exact q _ c _ (Int.emod_nonneg a (by omega)) (Int.emod_lt_of_pos a hm) (Int.le_refl _) (by omega) ⟨_, _, upd_same, Int.ediv_nonneg ha (by omega), hb, hb2, hc⟩
    · refine ⟨_, rfl, p, _, _, _, rfl, rfl, look hp, rfl, _, _, rfl, rfl, _, rfl, p, _, _, 2, rfl, rfl, hp, rfl, ?_⟩
      have h1 : upd H p (.lst [.int a, .int b, .int (c + 1)]) p = some (.lst [.int a, .int b, .int (c + 1)]) := upd_same
      refine ⟨_, rfl, p, _, _, _, rfl, rfl, look h1, rfl, _, rfl, p, _, _, _, rfl, rfl, look h1, rfl, _, _, rfl, rfl, .inl ⟨by decide, by decide⟩, _, _, rfl, rfl, _, _, rfl, rfl, ⟨by decide, by decide, ?_⟩, _, _, rfl, rfl, (show (0 : Int) < 2147483647 by decide), ?_⟩
      · show (b + 48271 * (c + 1)).natAbs < 2 ^ 64
        omega
      generalize (b + 48271 * (c + 1)) ^ (5 : Int).toNat % 2147483647 = once
      refine ⟨_, rfl, _, rfl, _, _, rfl, rfl, (show (0 : Int) < 30011 by decide), _, _, rfl, rfl, _, _, rfl, rfl, .inr ?_, _, rfl, p, _, _, _, rfl, rfl, look h1, rfl, _, _, rfl, rfl, .inr ⟨by decide, by decide⟩, _, _, rfl, rfl, _, _, rfl, rfl, (show (0 : Int) < 2147483629 by decide), _, _, rfl, rfl, ⟨by decide, by decide⟩, _, rfl, _, _, rfl, rfl, hm, ?_⟩
      · have z1 := Int.emod_nonneg once (show (30011 : Int) ≠ 0 by decide)
        have z2 := Int.emod_lt_of_pos once (show (0 : Int) < 30011 by decide)
        exact ⟨by omega, by omega⟩
      · exact q _ (c + 1) _ (Int.emod_nonneg _ (by omega)) (Int.emod_lt_of_pos _ hm) (by omega) (by omega) ⟨a, b, upd_same, ha, hb, hb2, by omega⟩
theorem ok_pick (F : Fun K "_law_pick" "_law_pick" sPick f fd) (G : FnOk P w K mg base CX0 1 fD fdD ["_law_box_here", "_law_below"] spTake)
    (bG : Binds K fdD ["_law_box_here", "_law_below"] []) (kG : PySem.W.keepIn K (.ref fD) = true) (mG : mg "_law_take" = some (.ref fD)) (mL : mg "len" = none) :
    FnOk P w K mg base CX0 2 f fd ["_law_box_here", "_law_some"] spPick := by
  refine F.ok scPick (fun vs H Q E h => ?_) (fun cdv A outer s H vs Q E hr h => ?_)
  · obtain ⟨p, l, c, xs, rfl, _⟩ := h
    rfl
  · obtain ⟨p, l, c, xs, rfl, S, hc, hne, hl, h0, h1, q⟩ := h
    refine ⟨_, pss_one (ps_ret (pe_ix ix_list (pv 1) (pe_call G hr rfl mG kG bG .nil pass0 (pa_cons (pv 0) (pa_cons (pe_callB call_len_seq (by rfl) mL PySem.boot_len (pa_cons (pv 1) pa_nil)) pa_nil))) (fun _ _ => rfl))), ?_⟩
    refine ⟨_, rfl, _, rfl, _, rfl, l, xs, rfl, .inl (SqL.of hl), p, c, _, rfl, S, hc, by omega, by omega, fun r c' zs r0 r1 c0 c1 S' => ?_⟩
    obtain ⟨j, rfl⟩ : ∃ j : Nat, r = (j : Int) := ⟨r.toNat, by omega⟩
    have hj : j < xs.length := by omega
    refine ⟨l, xs, _, xs[j], rfl, rfl, SqL.of ((upd_ne hne).trans hl), atI_nat (List.getElem?_eq_getElem hj), ?_⟩
    exact q _ c' zs (List.getElem_mem hj) c0 c1 S'
theorem ok_box (F : Fun K "_law_box" "_law_box" sBox f fd) (mL : mg "len" = none) (mA : mg "abs" = none) (mI : mg "int" = none) : FnOk P w K mg base CX0 1 f fd ["_law_script", "_law_k"] (spBox K) := by
  refine F.ok scBox (fun vs H Q E h => ?_) (fun cdv A outer s H vs Q E hr h => ?_)
  · obtain ⟨l, ns, k, rfl, _⟩ := h
    rfl
  · obtain ⟨l, ns, k, rfl, hl, hk, q⟩ := h
    refine ⟨_, pss_cons (ps_set (i := 2) scBox.nd rfl (.inl rfl) (pe_ifExp (pt_cmpR op_lt (pv 1) (pe_callB call_len_seq (by rfl) mL PySem.boot_len (pa_cons (pv 0) pa_nil)) (nomark _)) (pe_ix ix_list (pv 0) (pv 1) (fun _ _ => rfl)) pe_int))
      (pss_one (ps_ret (pe_lst (pa_cons (pe_op op_mul (pe_callB call_abs (by rfl) mA (by decide +kernel) (pa_cons (pv 2) pa_nil))
          (pe_callTy call_int1 (by rfl) mI (by decide +kernel) (pa_cons (pe_cmpR op_ge (pe_callB call_abs (by rfl) mA (by decide +kernel) (pa_cons (pv 2) pa_nil)) (pe_op op_pow pe_int pe_int) (nomark _)) pa_nil)))
        (pa_cons (pe_op op_add (pe_op op_add (pe_op op_mod (pv 2) pe_int) (pe_op op_mul pe_int (pv 1))) pe_int) (pa_cons pe_int pa_nil)))))), ?_⟩
    have fin : ∀ (cell : Int) (D : Ends), D.rt = Q → tRet (tLst (tCons (tOp (rI CMul fun i j => .int (i * j)) (tCB (fun xs H Q => ∃ i, xs = [.int i] ∧ Q (.int (if i < 0 then -i else i)) H) (tCons (tVar 2) tNil))
          (tCB (fun xs H Q => (∃ i, xs = [.int i] ∧ Q (.int i) H) ∨ ∃ k, xs = [.bl k] ∧ Q (.int (if k then 1 else 0)) H) (tCons (tOp (rI0 fun i j => .bl (decide (j ≤ i))) (tCB (fun xs H Q => ∃ i, xs = [.int i] ∧ Q (.int (if i < 0 then -i else i)) H) (tCons (tVar 2) tNil)) (tOp (rI CPow fun i j => .int (i ^ j.toNat)) (tC (.int 10)) (tC (.int 18)))) tNil)))
          (tCons (tOp (rI0 fun i j => .int (i + j)) (tOp (rI0 fun i j => .int (i + j)) (tOp (rI (fun _ j => 0 < j) fun i j => .int (i % j)) (tVar 2) (tC (.int 2147483629))) (tOp (rI CMul fun i j => .int (i * j)) (tC (.int 7919)) (tVar 1))) (tC (.int 73))) (tCons (tC (.int 0)) tNil)))) D [some (.ref l), some (.int (k : Int)), some (.int cell)] H := by
      intro cell D eD
      refine ⟨_, rfl, _, rfl, _, rfl, _, rfl, _, _, rfl, rfl, ⟨by decide, by decide, by decide⟩, _, _, rfl, rfl, .inr ⟨_, rfl, _, _, rfl, rfl, .inr ?_, ?_⟩⟩
      · exact ⟨Int.lt_of_lt_of_le (by decide) (b01 _).1, Int.lt_of_le_of_lt (b01 _).2 (by decide)⟩
      · refine ⟨_, rfl, _, _, rfl, rfl, (show (0 : Int) < 2147483629 by decide), _, rfl, _, _, rfl, rfl, .inl ⟨by decide, by decide⟩, _, _, rfl, rfl, _, _, rfl, rfl, (by show 3 ≤ sizeLine; decide), fun p hp => ?_⟩
        rw [eD]
        have z1 := Int.emod_nonneg cell (show (2147483629 : Int) ≠ 0 by decide)
        have z2 := Int.emod_lt_of_pos cell (show (0 : Int) < 2147483629 by decide)
        refine q p _ hp (Ex.new hp) ⟨_, _, upd_same, Int.mul_nonneg ?_ (b01 _).1, by omega, by omega, Int.le_refl 0⟩
        split <;> omega
    refine ⟨_, rfl, _, rfl, l, _, rfl, .inl hl, _, _, rfl, rfl, _, rfl, ?_⟩
    refine ite2 (fun h1 => ?_) (fun h1 => ?_)
    · have h2 := of_decide_eq_true h1
      rw [List.length_map] at h2
      have h3 : k < ns.length := by omega
      refine ⟨_, rfl, _, rfl, l, _, _, .int ns[k], rfl, rfl, hl, atI_nat (by rw [List.getElem?_map, List.getElem?_eq_getElem h3]; rfl), ?_⟩
      exact fin ns[k] _ rfl
    · exact fin 0 _ rfl
end
end KB
set_option Elab.async false
set_option linter.all false
set_option maxRecDepth 100000
set_option maxHeartbeats 4000000
namespace KB
open PySem PySem.Spec PyProof.Rows L2 Evl
abbrev sNames : Stmt := topS 34
abbrev nNames : List Str := ["_law_box_here", "_law_most", "_law_left", "_law_found", "_law_turn"]
theorem scNames : FnScope nNames ["_law_box_here", "_law_most"] (defScope sNames) := ⟨rfl, rfl, rfl, by decide +kernel, rfl, by decide +kernel, by decide +kernel⟩
def spNames : Sp := fun vs H Q _ => ∃ (p : Addr) (c m : Int), vs = [.ref p, .int m] ∧ Src H p c ∧ c < 100000 ∧ 0 < m ∧ m ≤ 15 ∧
  ∀ (q : Addr) (ns : List Int) (c' : Int) (H' : Hp), H q = none → Off p H H' → H' q = some (.lst (ns.map V.int)) → ns.Nodup → (∀ n ∈ ns, 2 ≤ n ∧ (n ≤ 20 ∨ n = 199)) → 0 < ns.length → (ns.length : Int) ≤ m → c ≤ c' → c' ≤ c + 20 → Src H' p c' → Q (.ref q) H'
def pool : List Int := [2, 3, 4, 5, 6, 7, 8, 9, 10, 11, 12, 13, 14, 15, 16, 17, 18, 19, 20, 199]
theorem nodup_erase {l : List Int} (h : l.Nodup) (j : Nat) : (l.eraseIdx j).Nodup := (List.eraseIdx_sublist l j).nodup h
theorem erase_not {l : List Int} (h : l.Nodup) {j : Nat} {n : Int} (e : l[j]? = some n) : n ∉ l.eraseIdx j := fun m => by
  have s := split_at e
  have e2 : l.eraseIdx j = l.take j ++ l.drop (j + 1) := List.eraseIdx_eq_take_drop_succ l j
  rw [e2] at m
  rw [s, List.nodup_append] at h
  rcases List.mem_append.mp m with m | m
  · exact h.2.2 n m n List.mem_cons_self rfl
  · exact (List.nodup_cons.mp h.2.1).1 m
theorem erase_ints (ns : List Int) (j : Nat) : (ns.map V.int).eraseIdx j = (ns.eraseIdx j).map V.int := by
  rw [List.eraseIdx_eq_take_drop_succ, List.eraseIdx_eq_take_drop_succ, List.map_append, List.map_take, List.map_drop]
section
variable {P : Program} {w : World} {K : PySem.W.Frag} {mg : Str → Option Value} {base : Heap} {f fD : Addr} {fd fdD : FuncData}
theorem ok_names (F : Fun K "_law_names" "_law_names" sNames f fd) (G : FnOk P w K mg base CX0 1 fD fdD ["_law_box_here", "_law_below"] spTake)
    (bG : Binds K fdD ["_law_box_here", "_law_below"] []) (kG : PySem.W.keepIn K (.ref fD) = true) (mG : mg "_law_take" = some (.ref fD)) (mL : mg "len" = none) (ml : mg "list" = none) (mr : mg "range" = none) :
    FnOk P w K mg base CX0 2 f fd ["_law_box_here", "_law_most"] spNames := by
  refine F.ok scNames (fun vs H Q E h => ?_) (fun cdv A outer s H vs Q E hr h => ?_)
  · obtain ⟨p, c, m, rfl, _⟩ := h
    rfl
  · obtain ⟨p, c, m, rfl, S, hc, hm, hm2, q⟩ := h
    refine ⟨_, pss_cons (ps_par (i := 2) (j := 3) rfl scNames.nd rfl rfl (by decide) rfl rfl (pa_cons (pe_op op_cat (pe_listRg rfl (by rfl) ml (prg_2 (by rfl) mr pe_int pe_int)) (pe_lst (pa_cons pe_int pa_nil))) (pa_cons (pe_lst pa_nil) pa_nil)) (by rfl))
      (pss_cons (ps_for PassesOwn.never rfl (pi_range1 (by rfl) mr (pa_cons (pe_op op_add pe_int (pe_call G hr rfl mG kG bG .nil pass0 (pa_cons (pv 0) (pa_cons (pv 1) pa_nil)))) pa_nil)) (pg_name (i := 4) scNames.nd rfl (.inl rfl))
        (pss_one (ps_expr (pe_bm PySem.F.plainAttrs_list PySem.F.slot_list_append PySem.F.type_list_append mt_append (pv 3) (pa_cons (pe_bm PySem.F.plainAttrs_list PySem.F.slot_list_pop PySem.F.type_list_pop mt_popAt (pv 2) (pa_cons (pe_call G hr rfl mG kG bG .nil pass0 (pa_cons (pv 0) (pa_cons (pe_callB call_len_seq (by rfl) mL PySem.boot_len (pa_cons (pv 2) pa_nil)) pa_nil))) pa_nil)) pa_nil)))))
      (pss_one (ps_ret (pv 3)))), ?_⟩
    refine ⟨2, 21, rfl, rfl, ⟨by decide, by decide, by decide, by decide⟩, fun r0 n0 => ?_⟩
    refine ⟨by show 1 ≤ sizeLine; decide, fun r1 n1 => ?_⟩
    have g0 : upd (upd H r0 (.lst (rgV 2 21))) r1 (.lst [.int 199]) r0 = some (.lst (rgV 2 21)) := by rw [upd_ne (fun z => by rw [← z, upd_same] at n1; cases n1)]; exact upd_same
    refine ⟨r0, r1, rgV 2 21, [.int 199], rfl, rfl, g0, upd_same, by show 20 ≤ sizeLine; decide, fun L0 nL => ⟨by show 0 ≤ sizeLine; decide, fun q0 nq => ⟨_, _, rfl, ?_⟩⟩⟩
    have eH : Ex H (upd (upd H r0 (.lst (rgV 2 21))) r1 (.lst [.int 199])) := (Ex.new n0).trans (Ex.new n1)
    have e1 : Ex H (upd (upd (upd (upd H r0 (.lst (rgV 2 21))) r1 (.lst [.int 199])) L0 (.lst (rgV 2 21 ++ [.int 199]))) q0 (.lst [])) := (eH.trans (Ex.new nL)).trans (Ex.new nq)
    have npL : H L0 = none := fresh_back eH nL
    have npq : H q0 = none := fresh_back (eH.trans (Ex.new nL)) nq
    have neq : L0 ≠ q0 := fun z => by rw [← z, upd_same] at nq; cases nq
    have gL : upd (upd (upd (upd H r0 (.lst (rgV 2 21))) r1 (.lst [.int 199])) L0 (.lst (rgV 2 21 ++ [.int 199]))) q0 (.lst []) L0 = some (.lst (pool.map V.int)) := by
      rw [upd_ne neq, upd_same]
      rfl
    have gq : upd (upd (upd (upd H r0 (.lst (rgV 2 21))) r1 (.lst [.int 199])) L0 (.lst (rgV 2 21 ++ [.int 199]))) q0 (.lst []) q0 = some (.lst []) := upd_same
    generalize upd (upd (upd (upd H r0 (.lst (rgV 2 21))) r1 (.lst [.int 199])) L0 (.lst (rgV 2 21 ++ [.int 199]))) q0 (.lst []) = H1 at e1 gL gq ⊢
    obtain ⟨sa, sb, sp, sr⟩ := S
    have pL : L0 ≠ p := fun z => by rw [z, sp] at npL; cases npL
    have pq : q0 ≠ p := fun z => by rw [z, sp] at npq; cases npq
    have S1 : Src H1 p c := ⟨sa, sb, e1 _ _ sp, sr⟩
    refine ⟨_, rfl, _, rfl, p, c, m, rfl, S1, by omega, hm, by omega, fun r c1 zs r0 r1 c10 c11 S2 => ?_⟩
    refine ⟨_, _, rfl, rfl, _, rfl, by omega, by omega, ?_⟩
    refine for_it (walk_range (lo := 0)) (fun i σ G => (∃ y, σ = [some (.ref p), some (.int m), some (.ref L0), some (.ref q0), y]) ∧ Off p H G ∧ ∃ (left found : List Int) (c2 : Int), G L0 = some (.lst (left.map V.int)) ∧ G q0 = some (.lst (found.map V.int)) ∧
        left.Nodup ∧ found.Nodup ∧ (∀ n ∈ found, n ∉ left) ∧ (∀ n ∈ left, 2 ≤ n ∧ (n ≤ 20 ∨ n = 199)) ∧ (∀ n ∈ found, 2 ≤ n ∧ (n ≤ 20 ∨ n = 199)) ∧ found.length = i ∧ left.length + i = 20 ∧ Src G p c2 ∧ c ≤ c2 ∧ c2 ≤ c + 1 + i)
      ⟨⟨_, rfl⟩, fun b o nb h => (upd_ne nb).trans (e1 _ _ h), pool, [], c1, (upd_ne pL).trans gL, (upd_ne pq).trans gq, by decide, List.nodup_nil, fun n m => (nomatch m), by decide, fun n m => (nomatch m), rfl, rfl, S2, c10, by omega⟩ (fun _ _ _ _ _ => True.intro) ?_ ?_
    · rintro i x σ G G' hi ⟨⟨y, rfl⟩, oG, left, found, c2, hL, hq, ndl, ndf, dis, il, ifo, lf, ll, S3, c20, c21⟩ ⟨rfl, rfl⟩
      have hi15 : i < 16 := by omega
      refine ⟨_, rfl, .inl ⟨rfl, _, SqL.of hq⟩, _, rfl, .inl ⟨rfl, _, SqL.of hL⟩, _, rfl, _, rfl, L0, _, rfl, .inl (SqL.of hL), p, c2, _, rfl, S3, by omega, by rw [List.length_map]; omega, by rw [List.length_map]; omega, fun t c3 zs t0 t1 c30 c31 S4 => ?_⟩
      obtain ⟨j, rfl⟩ : ∃ j : Nat, t = (j : Int) := ⟨t.toNat, by omega⟩
      rw [List.length_map] at t1
      have hj : j < left.length := by omega
      have ej : left[j]? = some left[j] := List.getElem?_eq_getElem hj
      have mj : left[j] ∈ left := List.getElem_mem hj
      refine ⟨L0, left.map V.int, _, j, .int left[j], rfl, rfl, (upd_ne pL).trans hL, by omega, by omega, ?_, by rw [List.getElem?_map, ej]; rfl, ?_⟩
      · rw [List.length_map]
        unfold seqIndex?
        simp
        omega
      · refine ⟨q0, found.map V.int, _, rfl, rfl, by rw [upd_ne neq.symm, upd_ne pq]; exact hq, by rw [List.length_map]; exact sz_lt (by omega), ⟨_, rfl⟩, fun b o nb h => ?_, left.eraseIdx j, found ++ [left[j]], c3, ?_, ?_, nodup_erase ndl j, ?_, ?_, ?_, ?_, ?_, ?_, ?_, by omega, by omega⟩
        · rw [upd_ne (ne_of_none h npq), upd_ne (ne_of_none h npL), upd_ne nb]
          exact oG b o nb h
        · rw [upd_ne neq, upd_same, erase_ints]
        · rw [upd_same, List.map_append]
          rfl
        · refine List.nodup_append.mpr ⟨ndf, by simp, fun b mb b' mb' z => ?_⟩
          have e' : b' = left[j] := by simpa using mb'
          exact dis b mb (by rw [z, e']; exact mj)
        · intro n mn
          rcases List.mem_append.mp mn with mn | mn
          · exact fun z => dis n mn ((List.eraseIdx_sublist left j).subset z)
          · rw [show n = left[j] by simpa using mn]
            exact erase_not ndl ej
        · exact fun n mn => il n ((List.eraseIdx_sublist left j).subset mn)
        · intro n mn
          rcases List.mem_append.mp mn with mn | mn
          · exact ifo n mn
          · rw [show n = left[j] by simpa using mn]
            exact il _ mj
        · rw [List.length_append, lf]
          rfl
        · rw [List.length_eraseIdx, if_pos hj]
          omega
        · obtain ⟨ua, ub, up, ur⟩ := S4
          exact ⟨ua, ub, by rw [upd_ne pq.symm, upd_ne pL.symm]; exact up, ur⟩
    · rintro σ G ⟨⟨y, rfl⟩, oG, left, found, c2, hL, hq, ndl, ndf, dis, il, ifo, lf, ll, S3, c20, c21⟩
      exact ⟨_, rfl, q q0 found c2 G npq oG hq ndf ifo (by omega) (by omega) c20 (by omega) S3⟩
end
end KB
set_option Elab.async false
set_option linter.all false
namespace KB
/-! ### rows sorted -/
def insR (a : Rw) : Fam → Fam
  | [] => [a]
  | b :: l => if a.n < b.n then a :: b :: l else if a.n = b.n then b :: l else b :: insR a l
def srtR (l : List Rw) : Fam := l.foldr insR []
theorem keys_ins (a : Rw) : ∀ (l : Fam), keys (insR a l) = ins a.n (keys l)
  | [] => rfl
  | b :: l => by
    unfold insR
    show keys _ = if a.n < b.n then _ else if a.n = b.n then _ else _
    split
    · rfl
    · split
      · rfl
      · show b.n :: keys (insR a l) = _
        rw [keys_ins a l]
        rfl
theorem keys_srt : ∀ (l : List Rw), keys (srtR l) = asc (l.map (·.n))
  | [] => rfl
  | a :: l => by
    show keys (insR a (srtR l)) = ins a.n (asc (l.map (·.n)))
    rw [keys_ins, keys_srt l]
theorem mem_insR {a r : Rw} : ∀ {l : Fam}, a.n ∉ keys l → (r ∈ insR a l ↔ r = a ∨ r ∈ l)
  | [], _ => by simp [insR]
  | b :: l, h => by
    have h2 : a.n ≠ b.n ∧ a.n ∉ keys l := by simpa [keys] using h
    unfold insR
    split
    · simp
    · rw [if_neg h2.1]
      simp only [List.mem_cons, mem_insR h2.2]
      constructor
      · rintro (h | h | h) <;> simp [h]
      · rintro (h | h | h) <;> simp [h]
theorem mem_srtR {r : Rw} : ∀ {l : List Rw}, (l.map (·.n)).Nodup → (r ∈ srtR l ↔ r ∈ l)
  | [], _ => by simp [srtR]
  | a :: l, nd => by
    have nd' := List.nodup_cons.mp nd
    have h : a.n ∉ keys (srtR l) := by
      rw [keys_srt, mem_asc]
      exact nd'.1
    show r ∈ insR a (srtR l) ↔ _
    rw [mem_insR h, mem_srtR nd'.2, List.mem_cons]
theorem len_srtR (l : List Rw) : (srtR l).length ≤ l.length := by
  have h : (keys (srtR l)).length ≤ (l.map (·.n)).length := by
    rw [keys_srt]
    exact len_asc _
  unfold keys at h
  simpa using h
/-- rows in the order of their births: each below an earlier one, the first one alone below nobody -/
structure Born (l : List Rw) : Prop where
  nd : (l.map (·.n)).Nodup
  low : ∀ r ∈ l, 2 ≤ r.n
  par : ∀ i r, l[i]? = some r → (r.up = 1 ↔ i = 0) ∧ (i ≠ 0 → ∃ (j : Nat) (q : Rw), j < i ∧ l[j]? = some q ∧ q.n = r.up)
  ne : l ≠ []
  few : l.length ≤ 20
def place (l : List Rw) (n : Int) : Nat := l.findIdx fun r => decide (r.n = n)
theorem place_of {l : List Rw} (nd : (l.map (·.n)).Nodup) {i : Nat} {r : Rw} (h : l[i]? = some r) : place l r.n = i := by
  obtain ⟨hi, e⟩ := List.getElem?_eq_some_iff.mp h
  unfold place
  rw [List.findIdx_eq hi]
  refine ⟨by rw [e]; exact decide_eq_true rfl, fun j hj => decide_eq_false fun z => ?_⟩
  have hj2 : j < l.length := by omega
  have e1 : (l.map (·.n))[j]? = some r.n := by
    rw [List.getElem?_map, List.getElem?_eq_getElem hj2]
    exact congrArg some z
  have e2 : (l.map (·.n))[i]? = some r.n := by
    rw [List.getElem?_map, h]
    rfl
  have s := split_at e2
  rw [s, List.nodup_append] at nd
  refine nd.2.2 r.n ?_ r.n List.mem_cons_self rfl
  have : ((l.map (·.n)).take i)[j]? = some r.n := by
    rw [List.getElem?_take, if_pos hj]
    exact e1
  exact List.mem_of_getElem? this
theorem Born.wf {l : List Rw} (B : Born l) : WF (srtR l) := by
  have mem : ∀ {r}, r ∈ srtR l ↔ r ∈ l := mem_srtR B.nd
  have inK : ∀ {r}, r ∈ l → r.n ∈ keys (srtR l) := fun m => List.mem_map_of_mem (f := fun r : Rw => r.n) (mem.mpr m)
  have asc' : (keys (srtR l)).Pairwise (· < ·) := by rw [keys_srt]; exact asc_asc _
  have upv : ∀ {r}, r ∈ l → up (srtR l) r.n = r.up := fun m => by
    unfold up
    rw [look_of asc' (mem.mpr m)]
    rfl
  refine ⟨asc', fun r m => B.low r (mem.mp m), fun r m => ?_, ?_, ⟨place l, fun r m => ?_, fun r m z => ?_⟩, Nat.le_trans (len_srtR l) B.few⟩
  · obtain ⟨i, h⟩ := List.mem_iff_getElem?.mp (mem.mp m)
    by_cases z : i = 0
    · exact .inl ((B.par i r h).1.mpr z)
    · obtain ⟨j, q, _, hq, e⟩ := (B.par i r h).2 z
      exact .inr (by rw [← e]; exact inK (List.mem_of_getElem? hq))
  · cases hl : l with
    | nil => exact absurd hl B.ne
    | cons r0 l' =>
      rw [← hl]
      have h0 : l[0]? = some r0 := by rw [hl]; rfl
      refine ⟨r0.n, inK (List.mem_of_getElem? h0), fun n m => ?_⟩
      obtain ⟨r, mr, rfl⟩ := List.mem_map.mp m
      have mr' := mem.mp mr
      rw [upv mr']
      obtain ⟨i, h⟩ := List.mem_iff_getElem?.mp mr'
      constructor
      · intro z
        have i0 := (B.par i r h).1.mp z
        rw [i0, h0] at h
        rw [Option.some.inj h]
      · intro z
        have p1 := place_of B.nd h
        have p2 := place_of B.nd h0
        rw [z, p2] at p1
        exact (B.par i r h).1.mpr p1.symm
  · obtain ⟨i, h⟩ := List.mem_iff_getElem?.mp (mem.mp m)
    rw [place_of B.nd h]
    have := (List.getElem?_eq_some_iff.mp h).1
    have := B.few
    omega
  · obtain ⟨i, h⟩ := List.mem_iff_getElem?.mp (mem.mp m)
    have zi : i ≠ 0 := fun w => z ((B.par i r h).1.mpr w)
    obtain ⟨j, q, hj, hq, e⟩ := (B.par i r h).2 zi
    rw [place_of B.nd h, ← e, place_of B.nd hq]
    exact hj
end KB
set_option Elab.async false
set_option linter.all false
set_option maxRecDepth 100000
set_option maxHeartbeats 4000000
namespace Evl
open PySem L2
section
variable {K : PySem.W.Frag} {σ : L2.St} {H H' G : Hp} {ta tb te tx td : TE} {t u : TT} {x y z v : V} {D : Ends} {tz : TS} {P : V → Hp → Prop}
theorem ev_dgetR {d : Addr} {kvs : List (Key × V)} {i : Int} (hd : Ev ta σ H (.ref d)) (hk : Ev tb σ H (.int i)) (e0 : Rd H d (.dK kvs)) (h : valV kvs (Sum.inl i) = some v) : Ev (tDGet ta tb) σ H v := fun H1 e Q q =>
  hd H1 e _ fun H2 e2 => hk H2 (e.trans e2) _ fun H3 e3 => ⟨d, v, rfl, .inl ⟨kvs, Sum.inl i, ex_rd ((e.trans e2).trans e3) e0, rfl, h.symm⟩, q H3 (e2.trans e3)⟩
theorem ev_dinR {d : Addr} {kvs : List (Key × V)} {i : Int} (hk : Ev tb σ H (.int i)) (hd : Ev ta σ H (.ref d)) (e0 : Rd H d (.dK kvs)) : Ev (tDIn tb ta) σ H (.bl (valV kvs (Sum.inl i)).isSome) := fun H1 e Q q =>
  hk H1 e _ fun H2 e2 => hd H2 (e.trans e2) _ fun H3 e3 => ⟨d, _, rfl, .inl ⟨kvs, Sum.inl i, ex_rd ((e.trans e2).trans e3) e0, rfl, rfl⟩, q H3 (e2.trans e3)⟩
theorem ev_dninR {d : Addr} {kvs : List (Key × V)} {i : Int} (hk : Ev tb σ H (.int i)) (hd : Ev ta σ H (.ref d)) (e0 : Rd H d (.dK kvs)) : Ev (tDNotIn tb ta) σ H (.bl (!(valV kvs (Sum.inl i)).isSome)) := fun H1 e Q q =>
  hk H1 e _ fun H2 e2 => hd H2 (e.trans e2) _ fun H3 e3 => ⟨d, _, rfl, .inl ⟨kvs, Sum.inl i, ex_rd ((e.trans e2).trans e3) e0, rfl, rfl⟩, q H3 (e2.trans e3)⟩
/-- sorted(d), int keys -/
def rSrtD : List V → Hp → VK → Prop := fun xs H Q => ∃ (a : Addr) (kvs : List (Key × V)) (ks : List Int), xs = [.ref a] ∧ Rd H a (.dK kvs) ∧ kvs.map (·.1) = ks.map Sum.inl ∧ ks.length < 64 ∧ ∀ (ys : List Int) (p : Addr), ys.Perm ks → ys.Pairwise (· ≤ ·) → H p = none → Q (.ref p) (upd H p (.lst (ys.map V.int)))
theorem el_srtD {d : Addr} {kvs : List (Key × V)} {ks : List Int} (hd : Ev td σ H (.ref d)) (e0 : Rd H d (.dK kvs)) (hk : kvs.map (·.1) = ks.map Sum.inl) (nd : ks.Nodup) (hl : ks.length < 64) : EvL (tCB rSrtD (tCons td tNil)) σ H ((KB.asc ks).map V.int) := fun H1 e Q q =>
  hd H1 e _ fun H2 e2 => ⟨d, kvs, ks, rfl, ex_rd (e.trans e2) e0, hk, hl, fun ys p pm so np => by
    have ey : ys = KB.asc ks := KB.asc_eq (by
      have nd' : ys.Nodup := pm.nodup_iff.mpr nd
      exact List.Pairwise.imp (fun h => by have h1 := h.1; have h2 := h.2; omega) (so.and nd')) fun k => pm.mem_iff
    subst ey
    exact q p _ (fresh_back e2 np) (e2.trans (Ex.new np)) upd_same⟩
theorem cr_srtD {X : Cx} (hc : X.calm = true) : CallR X (.builtin "sorted") rSrtD := call_sortedDI hc
end
end Evl
namespace KB
open PySem PySem.Spec PyProof.Rows L2 Evl
abbrev Ent := Rw × Addr
def row5 (r : Rw) : List V := [.int r.up, .int r.s, .int r.g, .bl r.ad, .str (wordOf r.w)]
def tbl (L : List Ent) : List (Key × V) := L.map fun e => (Sum.inl e.1.n, V.ref e.2)
def rowsL (L : List Ent) : List Rw := L.map (·.1)
def famL (L : List Ent) : Fam := srtR (rowsL L)
/-- the law's own families -/
structure Lk (H : Hp) (kd : Addr) (L : List Ent) : Prop where
  top : Rd H kd (.dK (tbl L))
  rows : ∀ e ∈ L, H e.2 = some (.lst (row5 e.1))
section
variable {K : PySem.W.Frag} {σ : L2.St} {H H' : Hp} {kd : Addr} {L : List Ent} {ta tb : TE} {n : Int}
theorem Lk.mono (e : Ex H H') (h : Lk H kd L) : Lk H' kd L := ⟨ex_rd e h.top, fun x m => e _ _ (h.rows x m)⟩
theorem nodupL (B : Born (rowsL L)) : (L.map fun e => e.1.n).Nodup := by
  have h := B.nd
  unfold rowsL at h
  rw [List.map_map] at h
  exact h
theorem lenL (B : Born (rowsL L)) : L.length ≤ 20 := by
  have h := B.few
  unfold rowsL at h
  rw [List.length_map] at h
  exact h
theorem wfL (B : Born (rowsL L)) : WF (famL L) := B.wf
theorem in_keys (B : Born (rowsL L)) (h : n ∈ keys (famL L)) : ∃ e ∈ L, e.1.n = n := by
  unfold famL at h
  rw [keys_srt, mem_asc] at h
  obtain ⟨r, m, e⟩ := List.mem_map.mp h
  obtain ⟨x, mx, rfl⟩ := List.mem_map.mp m
  exact ⟨x, mx, e⟩
theorem key_in (B : Born (rowsL L)) {e : Ent} (h : e ∈ L) : e.1.n ∈ keys (famL L) := by
  unfold famL
  rw [keys_srt, mem_asc]
  exact List.mem_map_of_mem (f := fun r : Rw => r.n) (List.mem_map_of_mem (f := fun e : Ent => e.1) h)
theorem row_in (B : Born (rowsL L)) {e : Ent} (h : e ∈ L) : e.1 ∈ famL L := (mem_srtR B.nd).mpr (List.mem_map_of_mem (f := fun e : Ent => e.1) h)
theorem val_tbl (B : Born (rowsL L)) {e : Ent} (h : e ∈ L) : valV (tbl L) (Sum.inl e.1.n) = some (.ref e.2) := val_map (fun e : Ent => e.1.n) (fun e => V.ref e.2) L (nodupL B) e h
theorem val_tblIs (B : Born (rowsL L)) (n : Int) : (valV (tbl L) (Sum.inl n)).isSome = decide (n ∈ keys (famL L)) := by
  by_cases h : n ∈ keys (famL L)
  · obtain ⟨e, m, rfl⟩ := in_keys B h
    rw [val_tbl B m, decide_eq_true h]
    rfl
  · have : n ∉ L.map fun e => e.1.n := fun m => by
      obtain ⟨e, me, z⟩ := List.mem_map.mp m
      exact h (by rw [← z]; exact key_in B me)
    unfold tbl
    rw [val_no (fun e : Ent => e.1.n) (fun e => V.ref e.2) n L this, decide_eq_false h]
    rfl
variable (B : Born (rowsL L)) (N : Lk H kd L) (hk : Ev ta σ H (.ref kd)) (hb : Ev tb σ H (.int n))
include B N hk
theorem lk_row (hb : Ev tb σ H (.int n)) (m : n ∈ keys (famL L)) {i : Nat} {z : V} (hz : ∀ r ∈ famL L, r.n = n → (row5 r)[i]? = some z) : Ev (tOp (rIxL K) (tDGet ta tb) (tC (.int (i : Int)))) σ H z := by
  obtain ⟨e, me, rfl⟩ := in_keys B m
  exact ev_op (ev_dgetR hk hb N.top (val_tbl B me)) ev_c (rv_ixL (sq_of (N.rows e me)) (atI_nat (hz e.1 (row_in B me) rfl)))
theorem lk_up (hb : Ev tb σ H (.int n)) (m : n ∈ keys (famL L)) : Ev (tOp (rIxL K) (tDGet ta tb) (tC (.int 0))) σ H (.int (up (famL L) n)) :=
  lk_row (i := 0) B N hk hb m fun r mr e => by rw [← e, (wfL B).up mr]; rfl
theorem lk_ses (hb : Ev tb σ H (.int n)) (m : n ∈ keys (famL L)) : Ev (tOp (rIxL K) (tDGet ta tb) (tC (.int 1))) σ H (.int (ses (famL L) n)) :=
  lk_row (i := 1) B N hk hb m fun r mr e => by rw [← e, (wfL B).ses mr]; rfl
theorem lk_grp (hb : Ev tb σ H (.int n)) (m : n ∈ keys (famL L)) : Ev (tOp (rIxL K) (tDGet ta tb) (tC (.int 2))) σ H (.int (grp (famL L) n)) :=
  lk_row (i := 2) B N hk hb m fun r mr e => by rw [← e, (wfL B).grp mr]; rfl
theorem lk_ado (hb : Ev tb σ H (.int n)) (m : n ∈ keys (famL L)) : Ev (tOp (rIxL K) (tDGet ta tb) (tC (.int 3))) σ H (.bl (ado (famL L) n)) :=
  lk_row (i := 3) B N hk hb m fun r mr e => by rw [← e, (wfL B).ado mr]; rfl
theorem lk_in (hb : Ev tb σ H (.int n)) : Ev (tDIn tb ta) σ H (.bl (decide (n ∈ keys (famL L)))) := by
  rw [← val_tblIs B n]
  exact ev_dinR hb hk N.top
theorem lk_nin (hb : Ev tb σ H (.int n)) : Ev (tDNotIn tb ta) σ H (.bl (!decide (n ∈ keys (famL L)))) := by
  rw [← val_tblIs B n]
  exact ev_dninR hb hk N.top
theorem lk_sorted : EvL (tCB rSrtD (tCons ta tNil)) σ H ((keys (famL L)).map V.int) := by
  unfold famL
  rw [keys_srt]
  have e : (rowsL L).map (·.n) = L.map fun e => e.1.n := by unfold rowsL; rw [List.map_map]; rfl
  rw [e]
  exact el_srtD hk N.top (by unfold tbl; rw [List.map_map, List.map_map]; rfl) (nodupL B) (by rw [List.length_map]; have := lenL B; omega)
end
/-! ### _law_above, _law_tops -/
abbrev sLAbove : Stmt := topS 35
abbrev sLTops : Stmt := topS 36
theorem scLAbove : FnScope ["_law_kin", "_law_n", "_law_up"] ["_law_kin", "_law_n"] (defScope sLAbove) := ⟨rfl, rfl, rfl, by decide +kernel, rfl, by decide +kernel, by decide +kernel⟩
abbrev nLTops : List Str := ["_law_kin", "_law_session_here", "_law_some", "_law_n"]
theorem scLTops : FnScope nLTops ["_law_kin", "_law_session_here"] (defScope sLTops) := ⟨rfl, rfl, rfl, by decide +kernel, rfl, by decide +kernel, by decide +kernel⟩
def spLAbove : Sp := fun vs H Q _ => ∃ kd L n, vs = [.ref kd, .int n] ∧ Lk H kd L ∧ Born (rowsL L) ∧ n ∈ keys (famL L) ∧ RetV (.int (adopter (famL L) n)) H Q
def spLTops : Sp := fun vs H Q _ => ∃ kd L s, vs = [.ref kd, .int s] ∧ Lk H kd L ∧ Born (rowsL L) ∧ RetL ((tops (famL L) s).map V.int) H Q
section
variable {P : Program} {w : World} {K : PySem.W.Frag} {mg : Str → Option Value} {base : Heap} {f : Addr} {fd : FuncData}
theorem ok_labove (F : Fun K "_law_above" "_law_above" sLAbove f fd) : FnOk P w K mg base CX0 1 f fd ["_law_kin", "_law_n"] spLAbove := by
  refine F.ok scLAbove (fun vs H Q E h => ?_) (fun cdv A outer s H vs Q E hr h => ?_)
  · obtain ⟨k, L, n, rfl, _⟩ := h
    rfl
  · obtain ⟨kd, L, n, rfl, N, B, m, q⟩ := h
    have hu := hu_of hr
    have W := wfL B
    refine ⟨_, pss_cons (ps_set (i := 2) scLAbove.nd rfl (.inl rfl) (pe_ix ix_list (pe_dget hu (pv 0) (pv 1) (fun _ _ => rfl)) pe_int (fun _ _ => rfl)))
      (pss_cons (ps_while PassesOwn.never (PW.pt (pw_and (pt_cmpR op_ne (pv 2) pe_int (nomark _)) (pw_and1 (pt_not (pt_val (pe_ix ix_list (pe_dget hu (pv 0) (pv 2) (fun _ _ => rfl)) pe_int (fun _ _ => rfl)))))))
        (pss_one (ps_set (i := 2) scLAbove.nd rfl (.inl rfl) (pe_ix ix_list (pe_dget hu (pv 0) (pv 2) (fun _ _ => rfl)) pe_int (fun _ _ => rfl)))))
      (pss_one (ps_ret (pv 2)))), ?_⟩
    obtain ⟨rk, _, r2⟩ := W.rk
    refine q_asg (lk_up B N (ev_var rfl) (ev_var rfl) m) fun H1 e1 => ?_
    refine q_while (fun c σ G => Ex H G ∧ ∃ u, σ = [some (.ref kd), some (.int n), some (.int u)] ∧ (u = 1 ∨ u ∈ keys (famL L)) ∧ c = (if u = 1 then 0 else rk u + 1) ∧ adopter (famL L) n = if u = 1 ∨ ado (famL L) u = true then u else adopter (famL L) u)
      _ ⟨e1, _, rfl, ?_, rfl, adopter_eq W m⟩ ?_
    · by_cases z : up (famL L) n = 1
      · exact .inl z
      · exact .inr (W.up_in m z)
    · rintro c σ G ⟨eG, u, rfl, hu2, rfl, ha⟩
      have NG := N.mono eG
      refine ⟨!decide (u = 1) && !ado (famL L) u, et_and (et_is (et_test (ev_op (ev_var rfl) ev_c (rv_ne rfl))) (by rw [dec_int])) (fun h => ?_), fun hb G1 e2 => ?_, fun hb G1 e2 => ?_⟩
      · have z : u ≠ 1 := by simpa using h
        exact et_not (et_B (lk_ado B NG (ev_var rfl) (ev_var rfl) (hu2.resolve_left z)))
      · rw [Bool.and_eq_true] at hb
        have z : u ≠ 1 := by simpa using hb.1
        have na : ado (famL L) u = false := by simpa using hb.2
        have mu := hu2.resolve_left z
        refine ⟨fun σ2 H3 => Ex H H3 ∧ σ2 = [some (.ref kd), some (.int n), some (.int (up (famL L) u))], ?_, ?_⟩
        · rintro σ2 H3 ⟨e3, rfl⟩
          refine ⟨_, ?_, e3, _, rfl, ?_, rfl, ?_⟩
          · rw [if_neg z]
            split
            · omega
            · rename_i z2
              obtain ⟨r, mr, rfl⟩ := W.row mu
              have e := W.up mr
              rw [e] at z2 ⊢
              have := r2 r mr z2
              omega
          · by_cases z2 : up (famL L) u = 1
            · exact .inl z2
            · exact .inr (W.up_in mu z2)
          · rw [ha, if_neg (by rintro (h | h); exact z h; rw [na] at h; cases h)]
            exact adopter_eq W mu
        · exact s_asg (lk_up B (NG.mono e2) (ev_var rfl) (ev_var rfl) mu) fun H3 e3 => ⟨eG.trans (e2.trans e3), rfl⟩
      · refine s_ret (ev_var rfl) fun H3 e3 => ?_
        have : adopter (famL L) n = u := by
          rw [ha]
          refine if_pos ?_
          by_cases z : u = 1
          · exact .inl z
          · refine .inr ?_
            have h := hb
            rw [decide_eq_false z] at h
            simpa using h
        rw [← this]
        exact q H3 (eG.trans (e2.trans e3))
theorem ok_ltops (F : Fun K "_law_tops" "_law_tops" sLTops f fd) (mo : mg "sorted" = none) : FnOk P w K mg base CX0 1 f fd ["_law_kin", "_law_session_here"] spLTops := by
  refine F.ok scLTops (fun vs H Q E h => ?_) (fun cdv A outer s H vs Q E hr h => ?_)
  · obtain ⟨k, L, n, rfl, _⟩ := h
    rfl
  · obtain ⟨kd, L, s, rfl, N, B, q⟩ := h
    have hu := hu_of hr
    have W := wfL B
    refine ⟨_, pss_cons (ps_setLc (i := 2) (own := [("_law_n", 3)]) (g := gName 3) (tt := tTest (tOp rEq (tOp (rIxL K) (tDGet (tVar 0) (tVar 3)) (tC (.int 1))) (tVar 1))) (te := tVar 3) rfl scLTops.nd rfl rfl (sw_true rfl rfl rfl (by decide +kernel)) (pi_list (pe_callB (cr_srtD rfl) (by rfl) mo (by decide +kernel) (pa_cons (pv 0) pa_nil))) (blkOk_by (N := nLTops) (sc := defScope sLTops) (by decide +kernel))
        (fun _ _ _ _ _ => pg_name (i := 3) scLTops.nd rfl (Or.inl rfl)) (fun _ _ _ _ _ => pts_one (pt_cmpR op_eq (pe_ix ix_list (pe_dget hu (pv 0) (pv 3) (fun _ _ => rfl)) pe_int (fun _ _ => rfl)) (pv 1) (nomark _))) (fun _ _ _ _ _ => pv 3))
      (pss_one (ps_ret (pe_lc (own := [("_law_n", 3)]) (g := gName 3) (tt := tOr (tTest (tOp rEq (tOp (rIxL K) (tDGet (tVar 0) (tVar 3)) (tC (.int 0))) (tC (.int 1)))) (tTest (tOp rNe (tOp (rIxL K) (tDGet (tVar 0) (tOp (rIxL K) (tDGet (tVar 0) (tVar 3)) (tC (.int 0)))) (tC (.int 1))) (tVar 1)))) (te := tVar 3) rfl scLTops.nd (pi_list (pv 2)) (blkOk_by (N := nLTops) (sc := defScope sLTops) (by decide +kernel))
        (fun _ _ _ _ _ => pg_name (i := 3) scLTops.nd rfl (Or.inl rfl)) (fun _ _ _ _ _ => pts_one (PW.pt (pw_or (pt_cmpR op_eq (pe_ix ix_list (pe_dget hu (pv 0) (pv 3) (fun _ _ => rfl)) pe_int (fun _ _ => rfl)) pe_int (nomark _)) (pw_or1 (pt_cmpR op_ne (pe_ix ix_list (pe_dget hu (pv 0) (pe_ix ix_list (pe_dget hu (pv 0) (pv 3) (fun _ _ => rfl)) pe_int (fun _ _ => rfl)) (fun _ _ => rfl)) pe_int (fun _ _ => rfl)) (pv 1) (nomark _)))))) (fun _ _ _ _ _ => pv 3)))), ?_⟩
    have few : (keys (famL L)).length ≤ 20 := by rw [len_keys]; exact W.few
    refine q_asgL (el_lcGN (K := K) (j := 3) (vs := [3]) V.int (fun b => decide (ses (famL L) b = s)) V.int (lk_sorted B N (ev_var rfl)) (by omega) (fun x => rfl) (fun b mb H1 e1 => et_is (et_test (ev_op (lk_ses B (N.mono e1) (ev_var rfl) (ev_var rfl) mb) (ev_var rfl) (rv_eq rfl))) (dec_int _ _)) (fun b mb _ H1 e1 => ev_var rfl)) fun l H1 nl e1 g1 => ?_
    have N1 := N.mono e1
    refine s_retL (el_lcG (K := K) (j := 3) (vs := [3]) V.int (fun b => decide (up (famL L) b = 1) || !decide (ses (famL L) (up (famL L) b) = s)) V.int (ev_var rfl) (sq_of g1) (by have := List.length_filter_le (fun b => decide (ses (famL L) b = s)) (keys (famL L)); omega) (fun x => rfl) (fun b mb H2 e2 => ?_) (fun b mb _ H2 e2 => ev_var rfl)) fun p H2 np e2 g2 => ?_
    · have mk := (List.mem_filter.mp mb).1
      have N2 := N1.mono e2
      refine et_or (et_is (et_test (ev_op (lk_up B N2 (ev_var rfl) (ev_var rfl) mk) ev_c (rv_eq rfl))) (dec_int _ _)) (fun h => ?_)
      have z : up (famL L) b ≠ 1 := of_decide_eq_false h
      exact et_is (et_test (ev_op (lk_ses B N2 (ev_var rfl) (lk_up B N2 (ev_var rfl) (ev_var rfl) mk) (W.up_in mk z)) (ev_var rfl) (rv_ne rfl))) (by rw [dec_int])
    · refine q p H2 (fresh_back e1 np) (e1.trans e2) ?_
      have : tops (famL L) s = ((keys (famL L)).filter fun b => decide (ses (famL L) b = s)).filter fun b => decide (up (famL L) b = 1) || !decide (ses (famL L) (up (famL L) b) = s) := by
        rw [List.filter_filter]
        unfold tops
        refine List.filter_congr fun b _ => ?_
        unfold topB
        rw [Bool.and_comm]
      rw [this]
      exact g2
end
end KB
set_option Elab.async false
set_option linter.all false
set_option maxRecDepth 100000
set_option maxHeartbeats 4000000
namespace KB
open PySem PySem.Spec PyProof.Rows L2 Evl
/-- the law's own families, not walked at present -/
structure LkU (H : Hp) (kd : Addr) (L : List Ent) : Prop where
  top : H kd = some (.dK (tbl L))
  rows : ∀ e ∈ L, H e.2 = some (.lst (row5 e.1))
theorem LkU.lk {H : Hp} {kd : Addr} {L : List Ent} (h : LkU H kd L) : Lk H kd L := ⟨.inl h.top, h.rows⟩
theorem LkU.mono {H H' : Hp} {kd : Addr} {L : List Ent} (e : Ex H H') (h : LkU H kd L) : LkU H' kd L := ⟨e _ _ h.top, fun x m => e _ _ (h.rows x m)⟩
def numsL (L : List Ent) : List Int := L.map fun e => e.1.n
/-- [e for n in kin if t] -/
theorem el_lockK {K : PySem.W.Frag} {σ : L2.St} {H : Hp} {kd : Addr} {L : List Ent} {t : TT} {te : TE} {j i0 : Nat} {vs : List Nat} (U : LkU H kd L) (few : L.length ≤ 20) (hi : σ[i0]? = some (some (.ref kd))) (p : Int → Bool) (g : Int → V) (hw : ∀ x, wipe ((wipe σ vs).set j (some x)) vs = wipe σ vs)
    (ht : ∀ n ∈ numsL L, ∀ G, Lk G kd L → EvT t ((wipe σ vs).set j (some (.int n))) G (p n)) (he : ∀ n ∈ numsL L, p n = true → ∀ G, Lk G kd L → Ev te ((wipe σ vs).set j (some (.int n))) G (g n)) :
    EvL (tLockE (tLc (iKeys (tVar i0)) (gName j) t te vs)) σ H (((numsL L).filter p).map g) := fun H1 e1 Q q => by
  have U1 := U.mono e1
  refine ⟨kd, .dK (tbl L), U1.top, True.intro, fun od => ?_⟩
  have gk : upd H1 kd (.frz od (.dK (tbl L))) kd = some (.frz od (.dK (tbl L))) := upd_same
  have st : ∀ {b : Addr} {o : HO}, b ≠ kd → H1 b = some o → upd H1 kd (.frz od (.dK (tbl L))) b = some o := fun n h => (upd_ne n).trans h
  have Nf : Lk (upd H1 kd (.frz od (.dK (tbl L)))) kd L := ⟨.inr ⟨od, gk⟩, fun x m => st (fun z => by have h := U1.rows x m; rw [z, U1.top] at h; cases h) (U1.rows x m)⟩
  have fr : ∀ {b : Addr}, upd H1 kd (.frz od (.dK (tbl L))) b = none → H1 b = none := fun {b} h => by
    by_cases z : b = kd
    · rw [z, gk] at h; cases h
    · rw [upd_ne z] at h; exact h
  generalize upd H1 kd (.frz od (.dK (tbl L))) = Hf at gk st Nf fr ⊢
  refine ⟨_, hi, kd, od, rfl, .inl ⟨tbl L, gk, fun Dl hD => lc_it (walk_keys (d := kd) (o := od) (kvs := tbl L)) (Made Hf (numsL L) p g Dl) ⟨hD, Ex.new hD, upd_same⟩ (fun i G _ m => m.2.1 _ _ gk) ?_ fun G m => ?_⟩⟩
  · rintro i x G _ hi m ⟨rfl, k, v, ek, rfl⟩
    unfold tbl at ek
    rw [List.getElem?_map] at ek
    obtain ⟨e, ee, e2⟩ := Option.map_eq_some_iff.mp ek
    obtain ⟨rfl, rfl⟩ := Prod.mk.inj e2
    have en : (numsL L)[i]? = some e.1.n := by
      unfold numsL
      rw [List.getElem?_map, ee]
      rfl
    have mn := List.mem_of_getElem? en
    exact ⟨hw _, made_turn m (by unfold numsL; rw [List.length_map]; omega) en (ht _ mn Hf Nf) (fun hp => he _ mn hp Hf Nf)⟩
  · obtain ⟨nD, eG, gD⟩ := m
    have len : (tbl L).length = (numsL L).length := by unfold tbl numsL; rw [List.length_map, List.length_map]
    rw [len, List.take_length] at gD
    have nk : Dl ≠ kd := fun z => by rw [z, gk] at nD; cases nD
    refine ⟨eG _ _ gk, q Dl _ (fr nD) (fun b o h => ?_) ((upd_ne nk).trans gD)⟩
    by_cases z : b = kd
    · rw [z, upd_same, ← U1.top, ← z, h]
    · rw [upd_ne z]
      exact eG _ _ (st z h)
section
variable {K : PySem.W.Frag} {L : List Ent}
theorem num_in (B : Born (rowsL L)) {n : Int} (h : n ∈ numsL L) : n ∈ keys (famL L) := by
  obtain ⟨e, m, rfl⟩ := List.mem_map.mp h
  exact key_in B m
theorem num_iff (B : Born (rowsL L)) {n : Int} : n ∈ numsL L ↔ n ∈ keys (famL L) := ⟨num_in B, fun h => by
  obtain ⟨e, m, rfl⟩ := in_keys B h
  exact List.mem_map_of_mem (f := fun e : Ent => e.1.n) m⟩
theorem len_nums (L : List Ent) : (numsL L).length = L.length := List.length_map _
/-- what is told by number, over the law's order and over the image's -/
theorem asc_nums (B : Born (rowsL L)) (p : Int → Bool) (g : Int → Int) : asc (((numsL L).filter p).map g) = asc (((keys (famL L)).filter p).map g) := asc_congr fun k => by
  rw [List.mem_map, List.mem_map]
  constructor
  · rintro ⟨n, m, e⟩
    obtain ⟨m1, m2⟩ := List.mem_filter.mp m
    exact ⟨n, List.mem_filter.mpr ⟨(num_iff B).mp m1, m2⟩, e⟩
  · rintro ⟨n, m, e⟩
    obtain ⟨m1, m2⟩ := List.mem_filter.mp m
    exact ⟨n, List.mem_filter.mpr ⟨(num_iff B).mpr m1, m2⟩, e⟩
end
abbrev sSplit : Stmt := topS 42
abbrev nSplit : List Str := ["_law_kin", "_law_group_here", "_law_some", "_law_n"]
theorem scSplit : FnScope nSplit ["_law_kin", "_law_group_here"] (defScope sSplit) := ⟨rfl, rfl, rfl, by decide +kernel, rfl, by decide +kernel, by decide +kernel⟩
def spSplit : Sp := fun vs H Q _ => ∃ kd L g, vs = [.ref kd, .int g] ∧ LkU H kd L ∧ Born (rowsL L) ∧ g ∈ groups (famL L) ∧ RetV (.bl (splitB (famL L) g)) H Q
abbrev tKin (K : PySem.W.Frag) (i j k : Nat) : TE := tOp (rIxL K) (tDGet (tVar i) (tVar j)) (tC (.int (k : Int)))
section
variable {P : Program} {w : World} {K : PySem.W.Frag} {mg : Str → Option Value} {base : Heap} {f fT fA : Addr} {fd dT dA : FuncData}
theorem ok_split (F : Fun K "_law_split" "_law_split" sSplit f fd) (mo : mg "sorted" = none) (ms : mg "set" = none) (ml : mg "len" = none) : FnOk P w K mg base CX0 1 f fd ["_law_kin", "_law_group_here"] spSplit := by
  refine F.ok scSplit (fun vs H Q E h => ?_) (fun cdv A outer s H vs Q E hr h => ?_)
  · obtain ⟨k, L, g, rfl, _⟩ := h
    rfl
  · obtain ⟨kd, L, g, rfl, U, B, hg, q⟩ := h
    have hu := hu_of hr
    have W := wfL B
    refine ⟨_, pss_cons (ps_set (i := 2) scSplit.nd rfl (.inl rfl) (pe_callB (cr_sortedSet rfl) (by rfl) mo (by decide +kernel) (pa_cons (pe_callTy (cr_setL rfl) (by rfl) ms (by decide +kernel) (pa_cons (pe_lock
        (pe_lc (own := [("_law_n", 3)]) (g := gName 3) (tt := tTest (tOp rEq (tKin K 0 3 2) (tVar 1))) (te := tKin K 0 3 1) rfl scSplit.nd (pi_keys (pv 0)) (blkOk_by (N := nSplit) (sc := defScope sSplit) (by decide +kernel))
          (fun _ _ _ _ _ => pg_name (i := 3) scSplit.nd rfl (Or.inl rfl)) (fun _ _ _ _ _ => pts_one (pt_cmpR op_eq (pe_ix ix_list (pe_dget hu (pv 0) (pv 3) (fun _ _ => rfl)) pe_int (fun _ _ => rfl)) (pv 1) (nomark _))) (fun _ _ _ _ _ => pe_ix ix_list (pe_dget hu (pv 0) (pv 3) (fun _ _ => rfl)) pe_int (fun _ _ => rfl)))) pa_nil)) pa_nil)))
      (pss_cons (ps_if (PW.pt (pw_or (pt_cmpR op_gt (pe_callB call_len_seq (by rfl) ml PySem.boot_len (pa_cons (pv 2) pa_nil)) pe_int (nomark _)) (pw_or1 (PW.pt (pw_and (pt_cmp (pc_din hu (pv 1) (pv 0))) (pw_and1 (pt_cmpR op_ne (pe_ix ix_list (pe_dget hu (pv 0) (pv 1) (fun _ _ => rfl)) pe_int (fun _ _ => rfl)) (pe_ix ix_list (pv 2) pe_int (fun _ _ => rfl)) (nomark _)))))))) (pss_one (ps_ret pe_bl)) pss_nil)
      (pss_one (ps_ret (pe_and (pe_cmpR op_ne (pv 1) (pe_ix ix_list (pv 2) pe_int (fun _ _ => rfl)) (nomark _)) (pe_one (pe_or (pe_cmpR op_eq (pv 1) pe_int (nomark _)) (pe_one (pe_cmpR op_in_seq (pv 1) (pe_lock
        (pe_lc (own := [("_law_n", 3)]) (g := gName 3) (tt := tYes) (te := tKin K 0 3 1) rfl scSplit.nd (pi_keys (pv 0)) (blkOk_by (N := nSplit) (sc := defScope sSplit) (by decide +kernel))
          (fun _ _ _ _ _ => pg_name (i := 3) scSplit.nd rfl (Or.inl rfl)) (fun _ _ _ _ _ => pts_nil) (fun _ _ _ _ _ => pe_ix ix_list (pe_dget hu (pv 0) (pv 3) (fun _ _ => rfl)) pe_int (fun _ _ => rfl)))) rfl)))))))), ?_⟩
    have lc := el_lockK (K := K) (t := tTest (tOp rEq (tKin K 0 3 2) (tVar 1))) (te := tKin K 0 3 1) (σ := start nSplit [.ref kd, .int g]) (i0 := 0) (j := 3) (vs := [3]) U (lenL B) rfl (fun n => decide (grp (famL L) n = g)) (fun n => .int (ses (famL L) n)) (fun x => rfl)
      (fun n m G N => et_is (et_test (ev_op (lk_grp B N (ev_var rfl) (ev_var rfl) (num_in B m)) (ev_var rfl) (rv_eq rfl))) (dec_int _ _)) (fun n m _ G N => lk_ses B N (ev_var rfl) (ev_var rfl) (num_in B m))
    have e2 : ((numsL L).filter fun n => decide (grp (famL L) n = g)).map (fun n => V.int (ses (famL L) n)) = (((numsL L).filter fun n => decide (grp (famL L) n = g)).map (ses (famL L))).map V.int := by rw [List.map_map]; rfl
    rw [e2] at lc
    have ow : asc (((numsL L).filter fun n => decide (grp (famL L) n = g)).map (ses (famL L))) = owners (famL L) g := by
      rw [asc_nums B, owners_eq W]
      rfl
    refine q_asgL (el_sset lc (by rw [List.length_map]; have := List.length_filter_le (fun n => decide (grp (famL L) n = g)) (numsL L); rw [len_nums] at this; have := lenL B; omega)) fun p H1 np e1 g1 => ?_
    rw [ow] at g1
    obtain ⟨o, rest, eo⟩ := owners_ne hg
    have hd : (owners (famL L) g).headD 1 = o := by rw [eo]; rfl
    have U1 := U.mono e1
    have N1 := U1.lk
    have gl1 := g1
    rw [eo] at g1
    refine q_when (et_or (et_test (ev_op (ev_len (K := K) (ev_var rfl) (sq_of gl1)) ev_c rv_I0)) (fun _ => et_and (et_test (lk_in B N1 (ev_var rfl) (ev_var rfl))) (fun hm => et_test (ev_op (lk_ses B N1 (ev_var rfl) (ev_var rfl) (of_decide_eq_true hm)) (ev_op (ev_var rfl) ev_c (rv_ix0 (sq_of g1))) (rv_ne rfl))))) (fun h2 H2 e2 => ?_) (fun h2 H2 e2 => ?_)
    · rw [dec_int, List.length_map] at h2
      have v : (V.bl true) = .bl (splitB (famL L) g) := by
        unfold splitB
        rw [hd]
        have z : (decide (1 < (owners (famL L) g).length) || (decide (g ∈ keys (famL L)) && !decide (ses (famL L) g = o))) = true := by
          rw [← h2]
          congr 1
          rw [Bool.eq_iff_iff, decide_eq_true_iff, decide_eq_true_iff]
          omega
        rw [z]
        rfl
      exact s_ret (ev_is ev_c v) fun H3 e3 => q H3 ((e1.trans e2).trans e3)
    · rw [dec_int, List.length_map] at h2
      have U2 := U1.mono e2
      have lc2 := el_lockK (K := K) (t := tYes) (te := tKin K 0 3 1) (σ := [some (.ref kd), some (.int g), some (.ref p), none]) (i0 := 0) (j := 3) (vs := [3]) U2 (lenL B) rfl (fun n => true) (fun n => .int (ses (famL L) n)) (fun x => rfl)
        (fun n m G N => et_yes) (fun n m _ G N => lk_ses B N (ev_var rfl) (ev_var rfl) (num_in B m))
      have e3 : ((numsL L).filter fun n => true).map (fun n => V.int (ses (famL L) n)) = ((numsL L).map (ses (famL L))).map V.int := by rw [Evl.filter_all, List.map_map]; rfl
      rw [e3] at lc2
      have v : (V.bl (!decide (V.int g = V.int o) && (decide (V.int g = V.int 1) || decide (g ∈ (numsL L).map (ses (famL L)))))) = .bl (splitB (famL L) g) := by
        unfold splitB
        rw [hd, dec_int, dec_int]
        have z : (decide (1 < (owners (famL L) g).length) || (decide (g ∈ keys (famL L)) && !decide (ses (famL L) g = o))) = false := by
          rw [← h2]
          congr 1
          rw [Bool.eq_iff_iff, decide_eq_true_iff, decide_eq_true_iff]
          omega
        have y : decide (g ∈ (numsL L).map (ses (famL L))) = decide (g ∈ (famL L).map (·.s)) := by
          rw [Bool.eq_iff_iff, decide_eq_true_iff, decide_eq_true_iff, ← ses_map W, List.mem_map, List.mem_map]
          constructor
          · rintro ⟨n, m, e⟩
            exact ⟨n, (num_iff B).mp m, e⟩
          · rintro ⟨n, m, e⟩
            exact ⟨n, (num_iff B).mpr m, e⟩
        rw [z, y, Bool.false_or, Bool.and_comm]
      refine s_ret (ev_is (ev_andV (ev_op (ev_var rfl) (ev_op (ev_var rfl) ev_c (rv_ix0 (sq_of (e2 _ _ g1)))) (rv_ne rfl)) (fun _ => ev_orV (ev_op (ev_var rfl) ev_c (rv_eq rfl)) (fun _ => ev_opL (ev_var rfl) lc2 (fun p H4 hp e4 => rv_inI (sq_of hp))))) v) fun H3 e3 => q H3 ((e1.trans e2).trans e3)
end
end KB
set_option Elab.async false
set_option linter.all false
set_option maxRecDepth 100000
set_option maxHeartbeats 4000000
namespace Evl
open PySem L2
section
variable {K : PySem.W.Frag} {σ : L2.St} {H H' G : Hp} {ta tb te tx td tl : TE} {t u : TT} {x y z v : V}
theorem el_cat {xs ys : List V} (ha : EvL ta σ H xs) (hb : EvL tb σ H ys) (hz : xs.length + ys.length ≤ 100000) : EvL (tOp rCat ta tb) σ H (xs ++ ys) := fun H1 e Q q =>
  ha H1 e _ fun p H2 np e2 gp => hb H2 (e.trans e2) _ fun r H3 nr e3 gr => ⟨p, r, xs, ys, rfl, rfl, e3 _ _ gp, gr, sz_of hz, fun l nl => q l _ (fresh_back (e2.trans e3) nl) ((e2.trans e3).trans (Ex.new nl)) upd_same⟩
theorem el_catV {xs ys : List V} {a : Addr} (ha : Ev ta σ H (.ref a)) (ga : H a = some (.lst xs)) (hb : EvL tb σ H ys) (hz : xs.length + ys.length ≤ 100000) : EvL (tOp rCat ta tb) σ H (xs ++ ys) := fun H1 e Q q =>
  ha H1 e _ fun H2 e2 => hb H2 (e.trans e2) _ fun r H3 nr e3 gr => ⟨a, r, xs, ys, rfl, rfl, e3 _ _ (e2 _ _ (e _ _ ga)), gr, sz_of hz, fun l nl => q l _ (fresh_back (e2.trans e3) nl) ((e2.trans e3).trans (Ex.new nl)) upd_same⟩
theorem el_srt {ns : List Int} (h : EvL tl σ H (ns.map V.int)) (nd : ns.Nodup) (hz : ns.length < 64) : EvL (tCB (rSorted K) (tCons tl tNil)) σ H ((KB.asc ns).map V.int) := fun H1 e Q q =>
  h H1 e _ fun p H2 np e2 gp => ⟨p, ns, rfl, sq_of gp, hz, fun ys r pm so nr => by
    have ey : ys = KB.asc ns := KB.asc_eq (List.Pairwise.imp (fun h => by have h1 := h.1; have h2 := h.2; omega) (so.and (pm.nodup_iff.mpr nd))) fun k => pm.mem_iff
    subst ey
    exact q r _ (fresh_back e2 nr) (e2.trans (Ex.new nr)) upd_same⟩
end
end Evl
namespace KB
open PySem PySem.Spec PyProof.Rows L2 Evl
abbrev sTorn : Stmt := topS 41
abbrev nTorn : List Str := ["_law_kin", "_law_session_here", "_law_tops_here", "_law_own", "_law_n", "_law_up"]
theorem scTorn : FnScope nTorn ["_law_kin", "_law_session_here"] (defScope sTorn) := ⟨rfl, rfl, rfl, by decide +kernel, rfl, by decide +kernel, by decide +kernel⟩
def spTorn : Sp := fun vs H Q _ => ∃ kd L s, vs = [.ref kd, .int s] ∧ Lk H kd L ∧ Born (rowsL L) ∧ s ∈ sessions (famL L) ∧ RetL (((keys (famL L)).filter (barsS (famL L) s)).map V.int) H Q
section
variable {M : Fam}
theorem nd_keys (W : WF M) : (keys M).Nodup := W.asc.imp fun h => Int.ne_of_lt h
/-- every session has a top -/
theorem top_some (W : WF M) {s : Int} (h : s ∈ sessions M) : ∃ o rest, tops M s = o :: rest := by
  obtain ⟨r, m, e⟩ := List.mem_map.mp (mem_asc.mp h)
  have key : ∀ n ∈ keys M, ses M n = s → ∃ o, o ∈ tops M s := by
    refine up_ind W (fun n mn z e => ?_) (fun n mn z ih e => ?_)
    · exact ⟨n, mem_tops.mpr ⟨mn, by unfold topB; rw [decide_eq_true e, decide_eq_true z]; rfl⟩⟩
    · by_cases w : ses M (up M n) = s
      · exact ih w
      · exact ⟨n, mem_tops.mpr ⟨mn, by unfold topB; rw [decide_eq_true e, decide_eq_false w, Bool.or_comm]; rfl⟩⟩
  obtain ⟨o, mo⟩ := key r.n (List.mem_map_of_mem (f := fun r : Rw => r.n) m) (by rw [W.ses m]; exact e)
  cases z : tops M s with
  | nil => rw [z] at mo; cases mo
  | cons o l => exact ⟨o, l, rfl⟩
end
section
variable {P : Program} {w : World} {K : PySem.W.Frag} {mg : Str → Option Value} {base : Heap} {f fT fA : Addr} {fd dT dA : FuncData}
theorem ok_torn (F : Fun K "_law_torn" "_law_torn" sTorn f fd) (mo : mg "sorted" = none) (mi : mg "int" = none)
    (GT : FnOk P w K mg base CX0 1 fT dT ["_law_kin", "_law_session_here"] spLTops) (bT : Binds K dT ["_law_kin", "_law_session_here"] []) (kT : PySem.W.keepIn K (.ref fT) = true) (mT : mg "_law_tops" = some (.ref fT))
    (GA : FnOk P w K mg base CX0 1 fA dA ["_law_kin", "_law_n"] spLAbove) (bA : Binds K dA ["_law_kin", "_law_n"] []) (kA : PySem.W.keepIn K (.ref fA) = true) (mA : mg "_law_above" = some (.ref fA)) :
    FnOk P w K mg base CX0 2 f fd ["_law_kin", "_law_session_here"] spTorn := by
  refine F.ok scTorn (fun vs H Q E h => ?_) (fun cdv A outer s H vs Q E hr h => ?_)
  · obtain ⟨k, L, g, rfl, _⟩ := h
    rfl
  · obtain ⟨kd, L, s, rfl, N, B, hs, q⟩ := h
    have hu := hu_of hr
    have W := wfL B
    refine ⟨_, pss_cons (ps_set (i := 2) scTorn.nd rfl (.inl rfl) (pe_call GT hr rfl mT kT bT .nil pass0 (pa_cons (pv 0) (pa_cons (pv 1) pa_nil))))
      (pss_cons (ps_if (pt_cmp (pc_din hu (pv 1) (pv 0)))
        (pss_cons (ps_set (i := 3) scTorn.nd rfl (.inl rfl) (pe_op op_rep (pe_lst (pa_cons (pv 1) pa_nil)) (pe_callTy call_int1 (by rfl) mi (by decide +kernel) (pa_cons (pe_or (pe_cmpR op_ne (pe_ix ix_list (pe_dget hu (pv 0) (pv 1) (fun _ _ => rfl)) pe_int (fun _ _ => rfl)) (pv 1) (nomark _)) (pe_one (pe_cmpR op_ne (pe_ix ix_list (pe_dget hu (pv 0) (pv 1) (fun _ _ => rfl)) pe_int (fun _ _ => rfl)) (pv 1) (nomark _)))) pa_nil))))
        (pss_one (ps_ret (pe_callB cr_sorted (by rfl) mo (by decide +kernel) (pa_cons (pe_op op_cat (pv 3)
          (pe_lc (own := [("_law_n", 4)]) (g := gName 4) (tt := tAnd (tTest (tOp rNe (tVar 4) (tVar 1))) (tTest (tOp rNe (tKin K 0 4 0) (tCall spLAbove [] E0 (tCons (tVar 0) (tCons (tVar 1) tNil)))))) (te := tVar 4) rfl scTorn.nd (pi_list (pv 2)) (blkOk_by (N := nTorn) (sc := defScope sTorn) (by decide +kernel))
            (fun _ _ _ _ _ => pg_name (i := 4) scTorn.nd rfl (Or.inl rfl)) (fun _ _ _ _ _ => pts_one (PW.pt (pw_and (pt_cmpR op_ne (pv 4) (pv 1) (nomark _)) (pw_and1 (pt_cmpR op_ne (pe_ix ix_list (pe_dget hu (pv 0) (pv 4) (fun _ _ => rfl)) pe_int (fun _ _ => rfl)) (pe_call GA hr rfl mA kA bA .nil pass0 (pa_cons (pv 0) (pa_cons (pv 1) pa_nil))) (nomark _)))))) (fun _ _ _ _ _ => pv 4))) pa_nil))))) pss_nil)
      (pss_cons (ps_if (pt_cmpR op_eq (pv 1) pe_int (nomark _)) (pss_one (ps_ret (pe_lc (own := [("_law_n", 4)]) (g := gName 4) (tt := tTest (tOp rNe (tKin K 0 4 0) (tC (.int 1)))) (te := tVar 4) rfl scTorn.nd (pi_list (pv 2)) (blkOk_by (N := nTorn) (sc := defScope sTorn) (by decide +kernel))
            (fun _ _ _ _ _ => pg_name (i := 4) scTorn.nd rfl (Or.inl rfl)) (fun _ _ _ _ _ => pts_one (pt_cmpR op_ne (pe_ix ix_list (pe_dget hu (pv 0) (pv 4) (fun _ _ => rfl)) pe_int (fun _ _ => rfl)) pe_int (nomark _))) (fun _ _ _ _ _ => pv 4)))) pss_nil)
      (pss_cons (ps_set (i := 5) scTorn.nd rfl (by first | exact .inl rfl | exact .inr rfl) (pe_ix ix_list (pe_dget hu (pv 0) (pe_ix ix_list (pv 2) pe_int (fun _ _ => rfl)) (fun _ _ => rfl)) pe_int (fun _ _ => rfl)))
      (pss_one (ps_ret (pe_lc (own := [("_law_n", 4)]) (g := gName 4) (tt := tOr (tTest (tOp rNe (tKin K 0 4 0) (tVar 5))) (tAnd (tTest (tOp rNe (tVar 5) (tC (.int 1)))) (tNot (tB (tKin K 0 5 3))))) (te := tVar 4) rfl scTorn.nd (pi_list (pv 2)) (blkOk_by (N := nTorn) (sc := defScope sTorn) (by decide +kernel))
            (fun _ _ _ _ _ => pg_name (i := 4) scTorn.nd rfl (Or.inl rfl)) (fun _ _ _ _ _ => pts_one (PW.pt (pw_or (pt_cmpR op_ne (pe_ix ix_list (pe_dget hu (pv 0) (pv 4) (fun _ _ => rfl)) pe_int (fun _ _ => rfl)) (pv 5) (nomark _)) (pw_or1 (PW.pt (pw_and (pt_cmpR op_ne (pv 5) pe_int (nomark _)) (pw_and1 (pt_not (pt_val (pe_ix ix_list (pe_dget hu (pv 0) (pv 5) (fun _ _ => rfl)) pe_int (fun _ _ => rfl))))))))))) (fun _ _ _ _ _ => pv 4))))))), ?_⟩
    have cT : SpL spLTops ([.ref kd, .int s] ++ []) H ((tops (famL L) s).map V.int) := fun H2 e2 Q q E => ⟨kd, L, s, rfl, N.mono e2, B, q⟩
    have tl := tops_len W s
    have tk : ∀ {n}, n ∈ tops (famL L) s → n ∈ keys (famL L) := fun m => (mem_tops.mp m).1
    have tf : ∀ (p : Int → Bool), (tops (famL L) s).filter p = (keys (famL L)).filter fun n => decide (n ∈ tops (famL L) s) && p n := fun p => by
      conv => lhs; unfold tops
      rw [List.filter_filter]
      refine List.filter_congr fun n m => ?_
      rw [Bool.and_comm]
      congr 1
      rw [Bool.eq_iff_iff, decide_eq_true_iff]
      exact ⟨fun h => mem_tops.mpr ⟨m, h⟩, fun h => (mem_tops.mp h).2⟩
    refine q_asgL (el_call (ea_cons (ev_var rfl) (ea_cons (ev_var rfl) ea_nil)) cT) fun l H1 nl e1 g1 => ?_
    have N1 := N.mono e1
    refine q_when (et_test (lk_in B N1 (ev_var rfl) (ev_var rfl))) (fun hb H2 e2 => ?_) (fun hb H2 e2 => ?_)
    · have ls : s ∈ keys (famL L) := of_decide_eq_true hb
      have N2 := N1.mono e2
      obtain ⟨bo, ebo⟩ : ∃ b : Bool, b = (!decide (V.int (ses (famL L) s) = V.int s) || !decide (V.int (grp (famL L) s) = V.int s)) := ⟨_, rfl⟩
      have hor : Ev (tOrV (tOp rNe (tKin K 0 1 1) (tVar 1)) (tOp rNe (tKin K 0 1 2) (tVar 1))) [some (.ref kd), some (.int s), some (.ref l), none, none, none] H2 (.bl bo) := by
        rw [ebo]
        exact ev_orV (ev_op (lk_ses B N2 (ev_var rfl) (ev_var rfl) ls) (ev_var rfl) (rv_ne rfl)) (fun _ => ev_op (lk_grp B N2 (ev_var rfl) (ev_var rfl) ls) (ev_var rfl) (rv_ne rfl))
      have own : EvL (tOp rRep (tLst (tCons (tVar 1) tNil)) (tCB (fun xs H Q => (∃ i, xs = [.int i] ∧ Q (.int i) H) ∨ ∃ k, xs = [.bl k] ∧ Q (.int (if k then 1 else 0)) H) (tCons (tOrV (tOp rNe (tKin K 0 1 1) (tVar 1)) (tOp rNe (tKin K 0 1 2) (tVar 1))) tNil))) [some (.ref kd), some (.int s), some (.ref l), none, none, none] H2 ((if bo = true then [s] else []).map V.int) := fun H3 e3 Q qq =>
        ⟨_, rfl, by show 1 ≤ sizeLine; decide, fun r nr => hor _ (e3.trans (Ex.new nr)) _ fun H4 e4 => .inr ⟨bo, rfl, r, _, _, rfl, rfl, e4 _ _ upd_same, by cases bo <;> decide, by cases bo <;> decide, (by
            cases bo
            · show 0 ≤ sizeLine
              decide
            · show 1 ≤ sizeLine
              decide), fun r2 n2 => by
          have e : (List.replicate (if bo = true then (1 : Int) else 0).toNat [V.int s]).flatten = (if bo = true then [s] else []).map V.int := by cases bo <;> rfl
          rw [e]
          exact qq r2 _ (fresh_back ((Ex.new nr).trans e4) n2) (((Ex.new nr).trans e4).trans (Ex.new n2)) upd_same⟩⟩
      refine q_asgL own fun w H3 nw e3 g3 => ?_
      have N3 := N2.mono e3
      have lc := el_lcG (K := K) (te := tVar 4) (t := tAnd (tTest (tOp rNe (tVar 4) (tVar 1))) (tTest (tOp rNe (tKin K 0 4 0) (tCall spLAbove [] E0 (tCons (tVar 0) (tCons (tVar 1) tNil)))))) (tl := tVar 2) (σ := [some (.ref kd), some (.int s), some (.ref l), some (.ref w), none, none]) (H := H3) (j := 4) (vs := [4]) V.int (fun n => !decide (n = s) && !decide (up (famL L) n = adopter (famL L) s)) V.int (ev_var rfl) (sq_of (e3 _ _ (e2 _ _ g1))) (by omega) (fun x => rfl)
        (fun b mb H4 e4 => et_and (et_is (et_test (ev_op (ev_var rfl) (ev_var rfl) (rv_ne rfl))) (by rw [dec_int])) (fun _ => et_is (et_test (ev_op (lk_up B (N3.mono e4) (ev_var rfl) (ev_var rfl) (tk mb)) (ev_call (ea_cons (ev_var rfl) (ea_cons (ev_var rfl) ea_nil)) (show SpV spLAbove ([.ref kd, .int s] ++ []) H4 (.int (adopter (famL L) s)) from fun H5 e5 Q q E => ⟨kd, L, s, rfl, N3.mono (e4.trans e5), B, ls, q⟩)) (rv_ne rfl))) (by rw [dec_int]))) (fun b mb _ H4 e4 => ev_var rfl)
      have fl : ((tops (famL L) s).filter fun n => !decide (n = s) && !decide (up (famL L) n = adopter (famL L) s)).length ≤ 20 := Nat.le_trans (List.length_filter_le _ _) tl
      have ol : (if bo = true then [s] else []).length ≤ 1 := by cases bo <;> simp
      have cat := el_catV (ev_var (σ := [some (.ref kd), some (.int s), some (.ref l), some (.ref w), none, none]) (i := 3) rfl) g3 lc (by rw [List.length_map, List.length_map]; omega)
      rw [← List.map_append] at cat
      have nd : ((if bo = true then [s] else []) ++ (tops (famL L) s).filter fun n => !decide (n = s) && !decide (up (famL L) n = adopter (famL L) s)).Nodup := by
        refine List.nodup_append.mpr ⟨by cases bo <;> simp, (List.filter_sublist.trans List.filter_sublist).nodup (nd_keys W), fun a ma b mb z => ?_⟩
        have ea : a = s := by
          cases hbo : bo with
          | true => rw [hbo] at ma; simpa using ma
          | false => rw [hbo] at ma; cases ma
        have hb := (List.mem_filter.mp mb).2
        rw [← z, ea] at hb
        simp at hb
      refine s_retL (el_srt cat nd (by rw [List.length_append]; omega)) fun p H4 np e4 g4 => ?_
      refine q p H4 (fresh_back ((e1.trans e2).trans e3) np) (((e1.trans e2).trans e3).trans e4) ?_
      have eq : asc ((if bo = true then [s] else []) ++ (tops (famL L) s).filter fun n => !decide (n = s) && !decide (up (famL L) n = adopter (famL L) s)) = (keys (famL L)).filter (barsS (famL L) s) := by
        refine (asc_eq (List.Pairwise.filter _ W.asc) fun k => ?_).symm
        rw [List.mem_filter, List.mem_append, tf, List.mem_filter]
        unfold barsS
        rw [if_pos ls]
        by_cases z : k = s
        · subst z
          rw [if_pos rfl]
          have : bo = !(decide (ses (famL L) k = k) && decide (grp (famL L) k = k)) := by
            rw [ebo, dec_int, dec_int, Bool.not_and]
          rw [← this]
          cases hbo : bo <;> simp [ls]
        · rw [if_neg z]
          have : k ∉ (if bo = true then [s] else []) := by
            cases bo <;> simp [z]
          simp [this, z]
      rw [eq] at g4
      exact g4
    · have ls : s ∉ keys (famL L) := of_decide_eq_false hb
      have N2 := N1.mono e2
      refine q_when (et_test (ev_op (ev_var rfl) ev_c (rv_eq rfl))) (fun h3 H3 e3 => ?_) (fun h3 H3 e3 => ?_)
      · rw [dec_int] at h3
        have es : s = 1 := of_decide_eq_true h3
        have N3 := N2.mono e3
        refine s_retL (el_lcG (K := K) (j := 4) (vs := [4]) V.int (fun n => !decide (up (famL L) n = 1)) V.int (ev_var rfl) (sq_of (e3 _ _ (e2 _ _ g1))) (by omega) (fun x => rfl) (fun b mb H4 e4 => et_is (et_test (ev_op (lk_up B (N3.mono e4) (ev_var rfl) (ev_var rfl) (tk mb)) ev_c (rv_ne rfl))) (by rw [dec_int])) (fun b mb _ H4 e4 => ev_var rfl)) fun p H4 np e4 g4 => ?_
        refine q p H4 (fresh_back ((e1.trans e2).trans e3) np) (((e1.trans e2).trans e3).trans e4) ?_
        rw [tf] at g4
        have eq : ((keys (famL L)).filter fun n => decide (n ∈ tops (famL L) s) && !decide (up (famL L) n = 1)) = (keys (famL L)).filter (barsS (famL L) s) := List.filter_congr fun n m => by
          unfold barsS
          rw [if_neg ls, if_pos es]
          by_cases z : n ∈ tops (famL L) s <;> simp [z]
        rw [eq] at g4
        exact g4
      · rw [dec_int] at h3
        have es : s ≠ 1 := of_decide_eq_false h3
        have N3 := N2.mono e3
        obtain ⟨o, rest, eo⟩ := top_some W hs
        have mo : o ∈ keys (famL L) := tk (by rw [eo]; exact List.mem_cons_self)
        have g3 := e3 _ _ (e2 _ _ g1)
        have g3' := g3
        rw [eo] at g3'
        refine q_asg (lk_up B N3 (ev_var rfl) (ev_op (ev_var rfl) ev_c (rv_ix0 (sq_of g3'))) mo) fun H4 e4 => ?_
        have N4 := N3.mono e4
        refine s_retL (el_lcG (K := K) (j := 4) (vs := [4]) V.int (fun n => !decide (up (famL L) n = up (famL L) o) || (!decide (up (famL L) o = 1) && !ado (famL L) (up (famL L) o))) V.int (ev_var rfl) (sq_of (e4 _ _ g3)) (by omega) (fun x => rfl) (fun b mb H5 e5 => ?_) (fun b mb _ H5 e5 => ev_var rfl)) fun p H5 np e5 g5 => ?_
        · refine et_or (et_is (et_test (ev_op (lk_up B (N4.mono e5) (ev_var rfl) (ev_var rfl) (tk mb)) (ev_var rfl) (rv_ne rfl))) (by rw [dec_int])) (fun _ => et_and (et_is (et_test (ev_op (ev_var rfl) ev_c (rv_ne rfl))) (by rw [dec_int])) (fun h => ?_))
          have z : up (famL L) o ≠ 1 := by simpa using h
          exact et_not (et_B (lk_ado B (N4.mono e5) (ev_var rfl) (ev_var rfl) (W.up_in mo z)))
        · refine q p H5 (fresh_back (((e1.trans e2).trans e3).trans e4) np) ((((e1.trans e2).trans e3).trans e4).trans e5) ?_
          rw [tf] at g5
          have eq : ((keys (famL L)).filter fun n => decide (n ∈ tops (famL L) s) && (!decide (up (famL L) n = up (famL L) o) || (!decide (up (famL L) o = 1) && !ado (famL L) (up (famL L) o)))) = (keys (famL L)).filter (barsS (famL L) s) := List.filter_congr fun n m => by
            unfold barsS
            rw [if_neg ls, if_neg es, eo]
            show _ = if n ∈ o :: rest then (!decide (up (famL L) n = up (famL L) o) || !ado (famL L) (up (famL L) n)) else false
            by_cases z : n ∈ o :: rest
            · rw [if_pos z, decide_eq_true z, Bool.true_and]
              by_cases y : up (famL L) n = up (famL L) o
              · rw [y, decide_eq_true rfl]
                by_cases x : up (famL L) o = 1
                · rw [x, ado1 W]
                  simp
                · simp [x]
              · simp [y]
            · rw [if_neg z, decide_eq_false z, Bool.false_and]
          rw [eq] at g5
          exact g5
end
end KB
set_option Elab.async false
set_option linter.all false
set_option maxRecDepth 100000
set_option maxHeartbeats 4000000
namespace KB
open PySem PySem.Spec PyProof.Rows L2 Evl
/-! ### data that are made -/
/-- a datum that holds nothing of what came since H -/
def EvM (te : TE) (σ : L2.St) (H : Hp) (d : PyData) : Prop := ∀ (Mk : List Addr) H1, Ex H H1 → (∀ b ∈ Mk, H b = none ∧ H1 b ≠ none) → ∀ Q : VK, (∀ v H2, Ex H1 H2 → Dx (mask H2 Mk) v d → Q v H2) → te σ H1 Q
theorem DxAll.app {H : Hp} : ∀ {vs us : List V} {ds es : List PyData}, DxAll H vs ds → DxAll H us es → DxAll H (vs ++ us) (ds ++ es)
  | _, _, _, _, .nil, k => k
  | _, _, _, _, .cons h t, k => .cons h (DxAll.app t k)
theorem mask_ex {H H1 : Hp} {Mk : List Addr} (e : Ex H H1) (h : ∀ b ∈ Mk, H b = none) : Ex H (mask H1 Mk) := fun b o hb => mask_of (e b o hb) fun m => by rw [h b m] at hb; cases hb
theorem mask_sub (H : Hp) (Mk : List Addr) : Ex (mask H Mk) H := fun b o h => (mask_at h).1
theorem Dx.unmask {H : Hp} {Mk : List Addr} {v : V} {d : PyData} (h : Dx (mask H Mk) v d) : Dx H v d := h.mono (mask_sub H Mk)
section
variable {K : PySem.W.Frag} {σ : L2.St} {H H' : Hp} {ta tb te tx tl : TE} {t : TT} {d : PyData}
theorem EvM.x (h : EvM te σ H d) : EvX te σ H d := fun H1 e Q q => h [] H1 e (fun b m => nomatch m) Q fun v H2 e2 g => q v H2 e2 g.unmask
theorem em_tup {ta : TA} {vs : List V} {ds : List PyData} (h : EvA ta σ H vs) (hd : DxAll H vs ds) (hl : vs.length ≤ 100000) : EvM (tTup ta) σ H (.tuple ds) := fun Mk H1 e hM Q q =>
  h H1 e _ fun H2 e2 => ⟨sz_of hl, fun p np => q _ _ (e2.trans (Ex.new np)) (.tup (mask_of upd_same fun m => (hM p m).2 (fresh_back e2 np)) (hd.mono (mask_ex ((e.trans e2).trans (Ex.new np)) fun b m => (hM b m).1)))⟩
theorem ex_cat {ds es : List PyData} (ha : EvX ta σ H (.list ds)) (hb : EvX tb σ H (.list es)) (hz : ds.length + es.length ≤ 100000) : EvX (tOp rCat ta tb) σ H (.list (ds ++ es)) := fun H1 e Q q =>
  ha H1 e _ fun v H2 e2 dv => hb H2 (e.trans e2) _ fun u H3 e3 du => by
    cases dv with
    | @lst a xs _ ga hx =>
      cases du with
      | @lst b ys _ gb hy =>
        refine ⟨a, b, xs, ys, rfl, rfl, e3 _ _ ga, gb, sz_of (by rw [hx.length, hy.length]; exact hz), fun p np => q _ _ ((e2.trans e3).trans (Ex.new np)) ?_⟩
        exact .lst upd_same (((hx.mono e3).app hy).mono (Ex.new np))
theorem ev_x {v : V} (h : Ev te σ H v) (g : Dx H v d) : EvX te σ H d := fun H1 e Q q => h H1 e _ fun H2 e2 => q v H2 e2 (g.mono (e.trans e2))
/-- the list of data that is made, behind i turns -/
def MadeX {α : Type} (H1 : Hp) (xs : List α) (p : α → Bool) (g : α → PyData) (Dl : Addr) (i : Nat) (G : Hp) : Prop := H1 Dl = none ∧ Ex H1 G ∧ ∃ acc, G Dl = some (.lst acc) ∧ DxAll (mask G [Dl]) acc (((xs.take i).filter p).map g)
theorem madeX_turn {α : Type} {H1 G : Hp} {xs : List α} {p : α → Bool} {g : α → PyData} {Dl : Addr} {i : Nat} {b : α} {σ2 : L2.St} (m : MadeX H1 xs p g Dl i G) (hz : xs.length ≤ 40000) (eb : xs[i]? = some b) (ht : EvT t σ2 H1 (p b)) (he : p b = true → EvM te σ2 H1 (g b)) :
    t σ2 G fun c H3 => if c = true then te σ2 H3 fun y H4 => ∃ acc, H4 Dl = some (.lst acc) ∧ acc.length < sizeLine ∧ MadeX H1 xs p g Dl (i + 1) (upd H4 Dl (.lst (acc ++ [y]))) else MadeX H1 xs p g Dl (i + 1) H3 := by
  obtain ⟨n1, eG, acc, gD, da⟩ := m
  have nx : (xs.take (i + 1)).filter p = (xs.take i).filter p ++ if p b = true then [b] else [] := by
    rw [List.take_add_one, eb, List.filter_append]
    show _ ++ List.filter p [b] = _
    cases hp : p b <;> simp [hp]
  refine ht G eG _ fun G2 e2 => ?_
  cases hp : p b with
  | true =>
    refine iteT (he hp [Dl] G2 (eG.trans e2) (fun c mc => by rw [List.mem_singleton.mp mc]; exact ⟨n1, by rw [e2 _ _ gD]; exact fun z => nomatch z⟩) _ fun v G3 e3 dv => ⟨acc, e3 _ _ (e2 _ _ gD), ?_, n1, Ex.mut (eG.trans (e2.trans e3)) n1, acc ++ [v], upd_same, ?_⟩)
    · rw [da.length, List.length_map]
      exact sz_lt (by have h1 := List.length_filter_le p (xs.take i); have h2 := List.length_take_le i xs; have h3 := (List.getElem?_eq_some_iff.mp eb).1; omega)
    · rw [mask_upd (List.mem_singleton.mpr rfl), nx, hp, List.map_append]
      exact (da.mono (mask_same (e2.trans e3) fun _ _ _ z => z)).snoc dv
  | false =>
    refine iteF ⟨n1, eG.trans e2, acc, e2 _ _ gD, ?_⟩
    rw [nx, hp]
    simpa using da.mono (mask_same e2 fun _ _ _ z => z)
theorem madeX_end {α : Type} {H1 G : Hp} {xs : List α} {p : α → Bool} {g : α → PyData} {Dl : Addr} (m : MadeX H1 xs p g Dl xs.length G) : Dx G (.ref Dl) (.list ((xs.filter p).map g)) := by
  obtain ⟨_, _, acc, gD, da⟩ := m
  rw [List.take_length] at da
  exact .lst gD (da.mono (mask_sub G _))
/-- [e for x in xs if t], e a new datum; xs a new list -/
theorem ex_lcN {α : Type} {xs : List α} {j : Nat} {vs : List Nat} (emb : α → V) (p : α → Bool) (g : α → PyData) (h : EvL tl σ H (xs.map emb)) (hz : xs.length ≤ 40000) (hw : ∀ x, wipe ((wipe σ vs).set j (some x)) vs = wipe σ vs)
    (ht : ∀ b ∈ xs, ∀ H1, Ex H H1 → EvT t ((wipe σ vs).set j (some (emb b))) H1 (p b)) (he : ∀ b ∈ xs, p b = true → ∀ H1, Ex H H1 → EvM te ((wipe σ vs).set j (some (emb b))) H1 (g b)) :
    EvX (tLc (iList K tl) (gName j) t te vs) σ H (.list ((xs.filter p).map g)) := fun H0 e0 Q q => by
  have len : (xs.map emb).length = xs.length := List.length_map _
  refine h H0 e0 _ fun a H1 na e1 ga => ⟨a, rfl, ⟨_, sq_of ga⟩, fun Dl hD => lc_it (walk_list (K := K) (a := a) (xs := xs.map emb)) (MadeX H1 xs p g Dl) ⟨hD, Ex.new hD, [], upd_same, .nil⟩ (fun i G _ m => sq_of (m.2.1 _ _ ga)) ?_ fun G m => ?_⟩
  · rintro i x G _ hi m ⟨rfl, ex⟩
    rw [List.getElem?_map] at ex
    obtain ⟨b, eb, rfl⟩ := Option.map_eq_some_iff.mp ex
    have mb := List.mem_of_getElem? eb
    exact ⟨hw _, madeX_turn m hz eb (ht b mb H1 (e0.trans e1)) (fun hp => he b mb hp H1 (e0.trans e1))⟩
  · rw [len] at m
    exact q _ G (e1.trans m.2.1) (madeX_end m)
/-- .. xs a list that stands -/
theorem ex_lcV {α : Type} {xs : List α} {j : Nat} {vs : List Nat} {a : Addr} (emb : α → V) (p : α → Bool) (g : α → PyData) (h : Ev tl σ H (.ref a)) (hx : SqL K H a (xs.map emb)) (hz : xs.length ≤ 40000) (hw : ∀ x, wipe ((wipe σ vs).set j (some x)) vs = wipe σ vs)
    (ht : ∀ b ∈ xs, ∀ H1, Ex H H1 → EvT t ((wipe σ vs).set j (some (emb b))) H1 (p b)) (he : ∀ b ∈ xs, p b = true → ∀ H1, Ex H H1 → EvM te ((wipe σ vs).set j (some (emb b))) H1 (g b)) :
    EvX (tLc (iList K tl) (gName j) t te vs) σ H (.list ((xs.filter p).map g)) := fun H0 e0 Q q => by
  have len : (xs.map emb).length = xs.length := List.length_map _
  refine h H0 e0 _ fun H1 e1 => ⟨a, rfl, ⟨_, ex_l (e0.trans e1) hx⟩, fun Dl hD => lc_it (walk_list (K := K) (a := a) (xs := xs.map emb)) (MadeX H1 xs p g Dl) ⟨hD, Ex.new hD, [], upd_same, .nil⟩ (fun i G _ m => ex_l (e0.trans (e1.trans m.2.1)) hx) ?_ fun G m => ?_⟩
  · rintro i x G _ hi m ⟨rfl, ex⟩
    rw [List.getElem?_map] at ex
    obtain ⟨b, eb, rfl⟩ := Option.map_eq_some_iff.mp ex
    have mb := List.mem_of_getElem? eb
    exact ⟨hw _, madeX_turn m hz eb (ht b mb H1 (e0.trans e1)) (fun hp => he b mb hp H1 (e0.trans e1))⟩
  · rw [len] at m
    exact q _ G (e1.trans m.2.1) (madeX_end m)
end
/-! ### _law_needs -/
abbrev sLNeeds : Stmt := topS 43
abbrev nLNeeds : List Str := ["_law_kin", "_law_n", "_law_session_here", "_law_at"]
theorem scLNeeds : FnScope nLNeeds ["_law_kin", "_law_n"] (defScope sLNeeds) := ⟨rfl, rfl, rfl, by decide +kernel, rfl, by decide +kernel, by decide +kernel⟩
def optI : Option Int → V
  | none => .non
  | some x => .int x
def spLNeeds : Sp := fun vs H Q _ => ∃ kd L n, vs = [.ref kd, .int n] ∧ Lk H kd L ∧ Born (rowsL L) ∧ n ∈ keys (famL L) ∧ RetV (optI (need (famL L) n)) H Q
def findUp (M : Fam) (p a : Int) : Option Int := (a :: above M a).find? fun b => !decide (b = 1) && decide (up M b = p)
theorem findUp_eq {M : Fam} (W : WF M) {a p : Int} (m : a ∈ keys M) : findUp M p a = if up M a = p then some a else if up M a = 1 then none else findUp M p (up M a) := by
  unfold findUp
  have z : a ≠ 1 := fun z => W.one (z ▸ m)
  rw [List.find?_cons, decide_eq_false z]
  by_cases h : up M a = p
  · rw [if_pos h, decide_eq_true h]
    rfl
  · rw [if_neg h, decide_eq_false h, above_eq W m]
    by_cases h1 : up M a = 1
    · rw [if_pos h1, if_pos h1, h1]
      rfl
    · rw [if_neg h1, if_neg h1]
      rfl
section
variable {P : Program} {w : World} {K : PySem.W.Frag} {mg : Str → Option Value} {base : Heap} {f fT fA fN : Addr} {fd dT dA dN : FuncData}
theorem ok_lneeds (F : Fun K "_law_needs" "_law_needs" sLNeeds f fd)
    (GT : FnOk P w K mg base CX0 1 fT dT ["_law_kin", "_law_session_here"] spLTops) (bT : Binds K dT ["_law_kin", "_law_session_here"] []) (kT : PySem.W.keepIn K (.ref fT) = true) (mT : mg "_law_tops" = some (.ref fT)) :
    FnOk P w K mg base CX0 2 f fd ["_law_kin", "_law_n"] spLNeeds := by
  refine F.ok scLNeeds (fun vs H Q E h => ?_) (fun cdv A outer s H vs Q E hr h => ?_)
  · obtain ⟨k, L, g, rfl, _⟩ := h
    rfl
  · obtain ⟨kd, L, n, rfl, N, B, m, q⟩ := h
    have hu := hu_of hr
    have W := wfL B
    refine ⟨_, pss_cons (ps_set (i := 2) scLNeeds.nd rfl (.inl rfl) (pe_ix ix_list (pe_dget hu (pv 0) (pv 1) (fun _ _ => rfl)) pe_int (fun _ _ => rfl)))
      (pss_cons (ps_if (PW.pt (pw_or (pt_cmp (pc_dnotin hu (pv 2) (pv 0))) (pw_or (pt_cmpR op_eq (pv 2) (pv 1) (nomark _)) (pw_or1 (pt_cmpR op_notIn_seq (pv 1) (pe_call GT hr rfl mT kT bT .nil pass0 (pa_cons (pv 0) (pa_cons (pv 2) pa_nil))) rfl))))) (pss_one (ps_ret pe_non)) pss_nil)
      (pss_cons (ps_set (i := 3) scLNeeds.nd rfl (.inl rfl) (pv 2))
      (pss_cons (ps_while PassesOwn.never (PW.pt (pw_and (pt_cmpR op_ne (pv 3) pe_int (nomark _)) (pw_and1 (pt_cmpR op_ne (pe_ix ix_list (pe_dget hu (pv 0) (pv 3) (fun _ _ => rfl)) pe_int (fun _ _ => rfl)) (pe_ix ix_list (pe_dget hu (pv 0) (pv 1) (fun _ _ => rfl)) pe_int (fun _ _ => rfl)) (nomark _)))))
        (pss_one (ps_set (i := 3) scLNeeds.nd rfl (.inl rfl) (pe_ix ix_list (pe_dget hu (pv 0) (pv 3) (fun _ _ => rfl)) pe_int (fun _ _ => rfl)))))
      (pss_one (ps_ret (pe_ifExp (pt_cmpR op_ne (pv 3) pe_int (nomark _)) (pv 3) pe_non)))))), ?_⟩
    refine q_asg (lk_ses B N (ev_var rfl) (ev_var rfl) m) fun H1 e1 => ?_
    have N1 := N.mono e1
    generalize hs : ses (famL L) n = s at *
    have cT : SpL spLTops ([.ref kd, .int s] ++ []) H1 ((tops (famL L) s).map V.int) := fun H2 e2 Q q E => ⟨kd, L, s, rfl, N1.mono e2, B, q⟩
    have tst : EvT (tOr (tTest (tDNotIn (tVar 2) (tVar 0))) (tOr (tTest (tOp rEq (tVar 2) (tVar 1))) (tTest (tOp (rIn K true) (tVar 1) (tCall spLTops [] E0 (tCons (tVar 0) (tCons (tVar 2) tNil))))))) [some (.ref kd), some (.int n), some (.int s), none] H1 (!decide (s ∈ keys (famL L)) || (decide (s = n) || !decide (n ∈ tops (famL L) s))) :=
      et_or (et_test (lk_nin B N1 (ev_var rfl) (ev_var rfl))) (fun _ => et_or (et_is (et_test (ev_op (ev_var rfl) (ev_var rfl) (rv_eq rfl))) (dec_int _ _)) (fun _ => et_test (ev_opL (ev_var rfl) (el_call (ea_cons (ev_var rfl) (ea_cons (ev_var rfl) ea_nil)) cT) (fun p H2 hp _ => rv_niI (sq_of hp)))))
    refine q_when tst (fun h2 H2 e2 => ?_) (fun h2 H2 e2 => ?_)
    · have no : need (famL L) n = none := by
        unfold need
        rw [if_neg, ]
        rintro ⟨z1, z2, z3⟩
        rw [hs] at z1 z2 z3
        rw [decide_eq_true z1, decide_eq_false z2, decide_eq_true (mem_tops.mpr ⟨m, z3⟩)] at h2
        cases h2
      refine s_ret ev_c fun H3 e3 => ?_
      have := q H3 ((e1.trans e2).trans e3)
      rw [no] at this
      exact this
    · rw [Bool.or_eq_false_iff, Bool.or_eq_false_iff] at h2
      have ls : s ∈ keys (famL L) := by simpa using h2.1
      have ns : s ≠ n := of_decide_eq_false h2.2.1
      have tt : n ∈ tops (famL L) s := by simpa using h2.2.2
      have en : need (famL L) n = findUp (famL L) (up (famL L) n) s := by
        unfold need findUp
        rw [hs, if_pos ⟨ls, ns, (mem_tops.mp tt).2⟩]
      have N2 := N1.mono e2
      refine q_asg (ev_var rfl) fun H3 e3 => ?_
      obtain ⟨rk, _, r2⟩ := W.rk
      refine q_while (fun c σ G => Ex H G ∧ ∃ a, σ = [some (.ref kd), some (.int n), some (.int s), some (.int a)] ∧ c = (if a = 1 then 0 else rk a + 1) ∧ ((a = 1 ∧ need (famL L) n = none) ∨ (a ∈ keys (famL L) ∧ need (famL L) n = findUp (famL L) (up (famL L) n) a)))
        _ ⟨(e1.trans e2).trans e3, s, rfl, rfl, .inr ⟨ls, en⟩⟩ ?_
      rintro c σ G ⟨eG, a, rfl, rfl, alt⟩
      have NG := N.mono eG
      refine ⟨!decide (a = 1) && !decide (up (famL L) a = up (famL L) n), et_and (et_is (et_test (ev_op (ev_var rfl) ev_c (rv_ne rfl))) (by rw [dec_int])) (fun h => ?_), fun hb G1 e4 => ?_, fun hb G1 e4 => ?_⟩
      · have z : a ≠ 1 := by simpa using h
        have ma := (alt.resolve_left fun h => z h.1).1
        exact et_is (et_test (ev_op (lk_up B NG (ev_var rfl) (ev_var rfl) ma) (lk_up B NG (ev_var rfl) (ev_var rfl) m) (rv_ne rfl))) (by rw [dec_int])
      · rw [Bool.and_eq_true] at hb
        have z : a ≠ 1 := by simpa using hb.1
        have z2 : up (famL L) a ≠ up (famL L) n := by simpa using hb.2
        obtain ⟨ma, ea⟩ := alt.resolve_left fun h => z h.1
        rw [findUp_eq W ma, if_neg z2] at ea
        refine ⟨fun σ2 H5 => Ex H H5 ∧ σ2 = [some (.ref kd), some (.int n), some (.int s), some (.int (up (famL L) a))], ?_, ?_⟩
        · rintro σ2 H5 ⟨e5, rfl⟩
          by_cases z3 : up (famL L) a = 1
          · rw [if_pos z3] at ea
            exact ⟨0, by rw [if_neg z]; omega, e5, _, rfl, by rw [if_pos z3], .inl ⟨z3, ea⟩⟩
          · rw [if_neg z3] at ea
            refine ⟨rk (up (famL L) a) + 1, ?_, e5, _, rfl, by rw [if_neg z3], .inr ⟨W.up_in ma z3, ea⟩⟩
            rw [if_neg z]
            obtain ⟨r, mr, rfl⟩ := W.row ma
            rw [W.up mr] at z3 ⊢
            have := r2 r mr z3
            omega
        · exact s_asg (lk_up B (NG.mono e4) (ev_var rfl) (ev_var rfl) ma) fun H5 e5 => ⟨eG.trans (e4.trans e5), rfl⟩
      · have fin : Ev (tIf (tTest (tOp rNe (tVar 3) (tC (.int 1)))) (tVar 3) (tC .non)) [some (.ref kd), some (.int n), some (.int s), some (.int a)] G1 (optI (need (famL L) n)) := by
          refine ev_if (b := !decide (a = 1)) (et_is (et_test (ev_op (ev_var rfl) ev_c (rv_ne rfl))) (by rw [dec_int])) (fun h => ?_) (fun h => ?_)
          · have z : a ≠ 1 := by simpa using h
            obtain ⟨ma, ea⟩ := alt.resolve_left fun h => z h.1
            have z2 : up (famL L) a = up (famL L) n := by
              rw [decide_eq_false z] at hb
              simpa using hb
            rw [ea, findUp_eq W ma, if_pos z2]
            exact ev_var rfl
          · have z : a = 1 := by simpa using h
            have ea := (alt.resolve_right fun h => W.one (z ▸ h.1)).2
            rw [ea]
            exact ev_c
        exact s_ret fin fun H5 e5 => q H5 (eG.trans (e4.trans e5))
end
end KB
set_option Elab.async false
set_option linter.all false
set_option maxRecDepth 100000
set_option maxHeartbeats 4000000
namespace Evl
open PySem L2
section
variable {K : PySem.W.Frag} {σ : L2.St} {H H' G : Hp} {ta tb te tx td tl : TE} {t u : TT} {x y z v : V} {D : Ends} {tz : TS}
theorem s_parL {xs : List V} {i j : Nat} (h1 : EvL ta σ H xs) (h2 : ∀ H1, Ex H H1 → Ev tb σ H1 v) (k : ∀ p H1, H p = none → Ex H H1 → H1 p = some (.lst xs) → D.nx ((σ.set i (some (.ref p))).set j (some v)) H1) : tPar i j (tCons ta (tCons tb tNil)) D σ H :=
  h1 H (Ex.refl H) _ fun p H1 np e1 g1 => h2 H1 e1 H1 (Ex.refl H1) _ fun H2 e2 => ⟨_, _, rfl, k p H2 np (e1.trans e2) (e2 _ _ g1)⟩
theorem q_parL {xs : List V} {i j : Nat} (h1 : EvL ta σ H xs) (h2 : ∀ H1, Ex H H1 → Ev tb σ H1 v) (k : ∀ p H1, H p = none → Ex H H1 → H1 p = some (.lst xs) → tz D ((σ.set i (some (.ref p))).set j (some v)) H1) : tSeq (tPar i j (tCons ta (tCons tb tNil))) tz D σ H := s_parL (D := { D with nx := tz D }) h1 h2 k
end
end Evl
namespace KB
open PySem PySem.Spec PyProof.Rows L2 Evl
theorem opt_nn (o : Option Int) : (!decide (optI o = .non)) = o.isSome := by cases o <;> rfl
theorem opt_eqn (o : Option Int) (n : Int) : decide (optI o = .int n) = decide (o = some n) := by
  cases o with
  | none => simp [optI]
  | some x => simp [optI]
theorem opt_scal (o : Option Int) (n : Int) : scal (optI o) (.int n) = true := by cases o <;> rfl
abbrev sRings : Stmt := topS 44
abbrev nRings : List Str := ["_law_kin", "_law_found", "_law_n", "_law_row", "_law_later"]
theorem scRings : FnScope nRings ["_law_kin"] (defScope sRings) := ⟨rfl, rfl, rfl, by decide +kernel, rfl, by decide +kernel, by decide +kernel⟩
def rowsD (rs : List (List Int)) : List PyData := rs.map fun row => .list (row.map PyData.int)
def spRings : Sp := fun vs H Q _ => ∃ kd L, vs = [.ref kd] ∧ Lk H kd L ∧ Born (rowsL L) ∧ RetD (.list (rowsD ((keys (famL L)).filterMap (ring (famL L))))) H Q
section
variable {P : Program} {w : World} {K : PySem.W.Frag} {mg : Str → Option Value} {base : Heap} {f fN : Addr} {fd dN : FuncData}
theorem ok_rings (F : Fun K "_law_rings" "_law_rings" sRings f fd) (mo : mg "sorted" = none) (mm : mg "min" = none)
    (GN : FnOk P w K mg base CX0 2 fN dN ["_law_kin", "_law_n"] spLNeeds) (bN : Binds K dN ["_law_kin", "_law_n"] []) (kN : PySem.W.keepIn K (.ref fN) = true) (mN : mg "_law_needs" = some (.ref fN)) :
    FnOk P w K mg base CX0 3 f fd ["_law_kin"] spRings := by
  refine F.ok scRings (fun vs H Q E h => ?_) (fun cdv A outer s H vs Q E hr h => ?_)
  · obtain ⟨k, L, rfl, _⟩ := h
    rfl
  · obtain ⟨kd, L, rfl, N, B, q⟩ := h
    have W := wfL B
    refine ⟨_, pss_cons (ps_set (i := 1) scRings.nd rfl (.inl rfl) (pe_lst pa_nil))
      (pss_cons (ps_for PassesOwn.never rfl (pi_list (pe_callB (cr_srtD rfl) (by rfl) mo (by decide +kernel) (pa_cons (pv 0) pa_nil))) (pg_name (i := 2) scRings.nd rfl (.inl rfl))
        (pss_cons (ps_par (i := 3) (j := 4) rfl scRings.nd rfl rfl (by decide) rfl rfl (pa_cons (pe_lst (pa_cons (pv 2) pa_nil)) (pa_cons (pe_call GN hr rfl mN kN bN .nil pass0 (pa_cons (pv 0) (pa_cons (pv 2) pa_nil))) pa_nil)) (by rfl))
        (pss_cons (ps_while PassesOwn.never (PW.pt (pw_and (pt_cmp (pc_notN (pv 4))) (pw_and1 (pt_cmpR op_notIn_seq (pv 4) (pv 3) rfl))))
          (pss_one (ps_par (i := 3) (j := 4) rfl scRings.nd rfl rfl (by decide) rfl rfl (pa_cons (pe_op op_cat (pv 3) (pe_lst (pa_cons (pv 4) pa_nil))) (pa_cons (pe_call GN hr rfl mN kN bN .nil pass0 (pa_cons (pv 0) (pa_cons (pv 4) pa_nil))) pa_nil)) (by rfl))))
        (pss_one (ps_if (PW.pt (pw_and (pt_cmpR op_eq (pv 4) (pv 2) (nomark _)) (pw_and1 (pt_cmpR op_eq (pe_callB (cr_min rfl) (by rfl) mm (by decide +kernel) (pa_cons (pv 3) pa_nil)) (pv 2) (nomark _)))))
          (pss_one (ps_expr (pe_bm PySem.F.plainAttrs_list PySem.F.slot_list_append PySem.F.type_list_append mt_append (pv 1) (pa_cons (pv 3) pa_nil)))) pss_nil)))))
      (pss_one (ps_ret (pv 1)))), ?_⟩
    refine q_asgL (el_lst ea_nil (by show 0 ≤ 100000; omega)) fun q0 H1 nq e1 g1 => ?_
    have N1 := N.mono e1
    have few : (keys (famL L)).length ≤ 20 := by rw [len_keys]; exact W.few
    refine q_forNLn (K := K) (lk_sorted B N1 (ev_var rfl)) (fun p i σ G => (∃ y z u, σ = [some (.ref kd), some (.ref q0), y, z, u]) ∧ Ex H G ∧ p ≠ q0 ∧ G p = some (.lst ((keys (famL L)).map V.int)) ∧ ∃ acc, G q0 = some (.lst acc) ∧ DxAll (mask G [q0]) acc (rowsD (((keys (famL L)).take i).filterMap (ring (famL L)))))
      (fun p H2 np e2 g2 => ⟨⟨_, _, _, rfl⟩, e1.trans e2, (fun z => by rw [z, g1] at np; cases np), g2, [], e2 _ _ g1, .nil⟩) (fun p i σ G _ g => sq_of g.2.2.2.1) ?_ ?_
    · rintro p i x σ G hx ⟨⟨y, z, u, rfl⟩, eG, npq, gp, acc, gq, da⟩
      obtain ⟨n, en, rfl⟩ := ints_at hx
      have mn := List.mem_of_getElem? en
      have NG := N.mono eG
      have cN : ∀ {m : Int} (G1 : Hp), Ex G G1 → m ∈ keys (famL L) → SpV spLNeeds ([.ref kd, .int m] ++ []) G1 (optI (need (famL L) m)) := fun G1 e h H2 e2 Q q E => ⟨kd, L, _, rfl, NG.mono (e.trans e2), B, h, q⟩
      refine q_parL (el_lst (ea_cons (ev_var rfl) ea_nil) (by show 1 ≤ 100000; omega)) (fun G1 e1 => ev_call (ea_cons (ev_var rfl) (ea_cons (ev_var rfl) ea_nil)) (cN G1 e1 mn)) fun r0 G1 nr0 eG1 gr0 => ?_
      have nrq0 : r0 ≠ q0 := fun z => by rw [z, gq] at nr0; cases nr0
      refine q_while (fun c σ G2 => Ex G G2 ∧ ∃ r row tl l, σ = [some (.ref kd), some (.ref q0), some (.int n), some (.ref r), some (optI l)] ∧ r ≠ q0 ∧ G2 r = some (.lst (row.map V.int)) ∧ row = n :: tl ∧ tl.Nodup ∧ (∀ b ∈ tl, b ∈ keys (famL L)) ∧ row.length + c = 65 ∧ ringGo (famL L) c row l = ringGo (famL L) 64 [n] (need (famL L) n) ∧ ∀ x, l = some x → x ∈ keys (famL L))
        64 ⟨eG1, r0, [n], [], need (famL L) n, rfl, nrq0, gr0, rfl, List.nodup_nil, fun b m => (nomatch m), rfl, rfl, fun x hx => need_in W hx⟩ ?_
      rintro c σ G2 ⟨e2, r, row, tl, l, rfl, nrq, gr, er, nd, sub, hc, go, hl⟩
      have len : row.length ≤ 21 := by
        rw [er, List.length_cons]
        have := nodup_len nd sub
        omega
      refine ⟨l.isSome && !decide (l.getD 0 ∈ row), et_and (et_is (et_B (ev_notN (ev_var rfl))) (opt_nn l)) (fun h => ?_), fun hb G3 e3 => ?_, fun hb G3 e3 => ?_⟩
      · obtain ⟨x, rfl⟩ := Option.isSome_iff_exists.mp h
        exact et_test (ev_op (ev_var rfl) (ev_var rfl) (rv_niI (sq_of gr)))
      · rw [Bool.and_eq_true] at hb
        obtain ⟨x, rfl⟩ := Option.isSome_iff_exists.mp hb.1
        have nx : x ∉ row := by simpa using hb.2
        have mx := hl x rfl
        refine ⟨fun σ2 G4 => Ex G G4 ∧ ∃ r', σ2 = [some (.ref kd), some (.ref q0), some (.int n), some (.ref r'), some (optI (need (famL L) x))] ∧ r' ≠ q0 ∧ G4 r' = some (.lst ((row ++ [x]).map V.int)), ?_, ?_⟩
        · rintro σ2 G4 ⟨e4, r', rfl, nr', gr'⟩
          refine ⟨c - 1, by omega, e4, r', row ++ [x], tl ++ [x], need (famL L) x, rfl, nr', gr', by rw [er]; rfl, ?_, fun b m => ?_, by rw [List.length_append]; simp; omega, ?_, fun y hy => need_in W hy⟩
          · refine List.nodup_append.mpr ⟨nd, by simp, fun b mb b' mb' w => ?_⟩
            have e' : b' = x := by simpa using mb'
            exact nx (by rw [er, ← e', ← w]; exact List.mem_cons_of_mem _ mb)
          · rcases List.mem_append.mp m with m | m
            · exact sub b m
            · rw [show b = x by simpa using m]
              exact mx
          · rw [← go]
            have ec : c = c - 1 + 1 := by omega
            conv => rhs; rw [ec]
            show _ = if x ∈ row then _ else _
            rw [if_neg nx]
        · have cat := el_catV (σ := [some (.ref kd), some (.ref q0), some (.int n), some (.ref r), some (optI (some x))]) (ev_var (i := 3) rfl) (e3 _ _ gr) (el_lst (ea_cons (ev_var (i := 4) rfl) ea_nil) (by show 1 ≤ 100000; omega)) (by rw [List.length_map]; show row.length + 1 ≤ 100000; omega)
          refine s_parL cat (fun G4 e4 => ev_call (ea_cons (ev_var rfl) (ea_cons (ev_var rfl) ea_nil)) (cN G4 ((e2.trans e3).trans e4) mx)) fun r' G4 nr' e4 gr' => ⟨(e2.trans e3).trans e4, r', rfl, fun w => ?_, ?_⟩
          · rw [w, e3 _ _ (e2 _ _ gq)] at nr'
            cases nr'
          · rw [gr', List.map_append]
            rfl
      · have stop : ringGo (famL L) c row l = (row, l) := go_end fun x hx => by
          have h : (true && !decide (x ∈ row)) = false := by rw [hx] at hb; exact hb
          by_cases m : x ∈ row
          · exact m
          · rw [decide_eq_false m] at h
            cases h
        have er2 : ring (famL L) n = if l = some n ∧ row.all (fun b => decide (n ≤ b)) = true then some row else none := by
          unfold ring
          rw [← go, stop]
        have eX := eG.trans (e2.trans e3)
        have gr3 := e3 _ _ gr
        have low : EvT (tTest (tOp rEq (tCB (rMin K) (tCons (tVar 3) tNil)) (tVar 2))) [some (.ref kd), some (.ref q0), some (.int n), some (.ref r), some (optI l)] G3 (row.all fun b => decide (n ≤ b)) := fun H3 e4 Q qq => by
          refine ⟨_, rfl, r, row, rfl, sq_of (e4 _ _ gr3), by rw [er]; exact Nat.succ_pos _, fun m mm hm => ⟨_, rfl, rfl, _, rfl, ?_⟩⟩
          have e : decide (V.int m = V.int n) = row.all fun b => decide (n ≤ b) := by
            rw [dec_int, Bool.eq_iff_iff, decide_eq_true_iff, List.all_eq_true]
            constructor
            · intro z b mb
              rw [← z]
              exact decide_eq_true (hm b mb)
            · intro h
              have h1 := of_decide_eq_true (h m mm)
              have h2 := hm n (by rw [er]; exact List.mem_cons_self)
              omega
          rw [e]
          exact qq H3 (Ex.refl H3)
        have tk : ((keys (famL L)).take (i + 1)).filterMap (ring (famL L)) = ((keys (famL L)).take i).filterMap (ring (famL L)) ++ (ring (famL L) n).toList := by
          rw [List.take_add_one, en, List.filterMap_append]
          congr 1
        refine s_if (et_and (et_is (et_test (ev_op (ev_var rfl) (ev_var rfl) (rv_eq (opt_scal l n)))) (opt_eqn l n)) (fun _ => low)) (fun h4 G4 e4 => ?_) (fun h4 G4 e4 => ?_)
        · rw [Bool.and_eq_true] at h4
          rw [if_pos ⟨of_decide_eq_true h4.1, h4.2⟩] at er2
          have eY := (e2.trans e3).trans e4
          refine s_app (eY _ _ gq) (ev_var rfl) (ev_var rfl) ?_ fun G5 e5 => ⟨⟨_, _, _, rfl⟩, Ex.mut ((eG.trans eY).trans e5) nq, npq, by rw [upd_ne npq]; exact e5 _ _ (eY _ _ gp), acc ++ [.ref r], upd_same, ?_⟩
          · rw [da.length]
            unfold rowsD
            rw [List.length_map]
            have h1 := List.length_filterMap_le (ring (famL L)) ((keys (famL L)).take i)
            have h2 := List.length_take_le i (keys (famL L))
            have h3 := (List.getElem?_eq_some_iff.mp en).1
            omega
          · rw [mask_upd (List.mem_singleton.mpr rfl), tk, er2]
            unfold rowsD
            rw [List.map_append]
            refine (da.mono (mask_same (eY.trans e5) fun _ _ _ z => z)).snoc ?_
            exact .lst (mask_of (e5 _ _ (e4 _ _ gr3)) fun m => nrq (List.mem_singleton.mp m)) (dx_ints row)
        · have nn : ring (famL L) n = none := by
            rw [er2, if_neg]
            rintro ⟨z1, z2⟩
            rw [decide_eq_true z1, z2] at h4
            cases h4
          have eY := (e2.trans e3).trans e4
          refine ⟨⟨_, _, _, rfl⟩, eG.trans eY, npq, eY _ _ gp, acc, eY _ _ gq, ?_⟩
          rw [tk, nn]
          simpa using da.mono (mask_same eY fun _ _ _ z => z)
    · rintro p σ G ⟨⟨y, z, u, rfl⟩, eG, npq, gp, acc, gq, da⟩
      rw [List.length_map, List.take_length] at da
      refine s_ret (ev_var rfl) fun H3 e3 => q _ H3 (eG.trans e3) ((Dx.lst gq (da.mono (mask_sub G _))).mono e3)
end
end KB
set_option Elab.async false
set_option linter.all false
set_option maxRecDepth 100000
set_option maxHeartbeats 4000000
namespace KB
open PySem PySem.Spec PyProof.Rows L2 Evl
theorem DxAll.zip {H : Hp} : ∀ {vs : List V} {ds : List PyData}, DxAll H vs ds → (vs.zip ds).map (·.1) = vs ∧ (vs.zip ds).map (·.2) = ds ∧ ∀ p ∈ vs.zip ds, Dx H p.1 p.2
  | _, _, .nil => ⟨rfl, rfl, fun p m => nomatch m⟩
  | _, _, .cons h t => by
    obtain ⟨a, b, c⟩ := DxAll.zip t
    refine ⟨by rw [List.zip_cons_cons, List.map_cons, a], by rw [List.zip_cons_cons, List.map_cons, b], fun p m => ?_⟩
    rw [List.zip_cons_cons] at m
    rcases List.mem_cons.mp m with m | m
    · rw [m]; exact h
    · exact c p m
/-- [e for x in xs], xs data of a list that is made -/
theorem ex_lcD {K : PySem.W.Frag} {σ : L2.St} {H : Hp} {te tl : TE} {ds : List PyData} {j : Nat} {vs : List Nat} (g : PyData → PyData) (h : EvX tl σ H (.list ds)) (hz : ds.length ≤ 40000) (hw : ∀ x, wipe ((wipe σ vs).set j (some x)) vs = wipe σ vs)
    (he : ∀ v, ∀ d ∈ ds, ∀ H1, Ex H H1 → Dx H1 v d → EvM te ((wipe σ vs).set j (some v)) H1 (g d)) : EvX (tLc (iList K tl) (gName j) tYes te vs) σ H (.list (ds.map g)) := fun H0 e0 Q q => by
  refine h H0 e0 _ fun u H1 e1 du => ?_
  cases du with
  | @lst a acc _ ga hx =>
    obtain ⟨z1, z2, z3⟩ := hx.zip
    have len : acc.length = (acc.zip ds).length := by rw [← congrArg List.length z1, List.length_map]
    have lend := hx.length
    refine ⟨a, rfl, ⟨_, sq_of ga⟩, fun Dl hD => lc_it (walk_list (K := K) (a := a) (xs := acc)) (MadeX H1 (acc.zip ds) (fun _ => true) (fun p => g p.2) Dl) ⟨hD, Ex.new hD, [], upd_same, .nil⟩ (fun i G _ m => sq_of (m.2.1 _ _ ga)) ?_ fun G m => ?_⟩
    · rintro i x G _ hi m ⟨rfl, ex⟩
      have ex2 : ((acc.zip ds).map (·.1))[i]? = some x := by rw [z1]; exact ex
      rw [List.getElem?_map] at ex2
      obtain ⟨b, eb, rfl⟩ := Option.map_eq_some_iff.mp ex2
      have mb := List.mem_of_getElem? eb
      have md : b.2 ∈ ds := by
        have : b.2 ∈ (acc.zip ds).map (·.2) := List.mem_map_of_mem (f := fun p : V × PyData => p.2) mb
        rw [z2] at this
        exact this
      exact ⟨hw _, madeX_turn m (by omega) eb et_yes (fun _ => he b.1 b.2 md H1 (e0.trans e1) (z3 b mb))⟩
    · rw [len] at m
      have := madeX_end m
      rw [Evl.filter_all] at this
      have e : (acc.zip ds).map (fun p => g p.2) = ds.map g := by
        conv => rhs; rw [← z2]
        rw [List.map_map]
        rfl
      rw [e] at this
      exact q _ G (e1.trans m.2.1) this
abbrev sReasons : Stmt := topS 45
abbrev nReasons : List Str := ["_law_kin", "_law_found", "_law_session_here", "_law_n", "_law_groups_so", "_law_group_here", "_law_row"]
theorem scReasons : FnScope nReasons ["_law_kin"] (defScope sReasons) := ⟨rfl, rfl, rfl, by decide +kernel, rfl, by decide +kernel, by decide +kernel⟩
def spReasons : Sp := fun vs H Q _ => ∃ kd L, vs = [.ref kd] ∧ LkU H kd L ∧ Born (rowsL L) ∧ RetD (.list ((reasons (famL L)).map rsD)) H Q
theorem flat_len {α : Type} (f : α → List Rs) (c : Nat) (h : ∀ a, (f a).length ≤ c) : ∀ (l : List α), (l.flatMap f).length ≤ c * l.length
  | [] => Nat.zero_le _
  | a :: l => by
    rw [List.flatMap_cons, List.length_append, List.length_cons]
    have h1 := h a
    have h2 := flat_len f c h l
    rw [Nat.mul_add, Nat.mul_one]
    omega
section
variable {P : Program} {w : World} {K : PySem.W.Frag} {mg : Str → Option Value} {base : Heap} {f fT fS fR : Addr} {fd dT dS dR : FuncData}
theorem ok_reasons (F : Fun K "_law_reasons" "_law_reasons" sReasons f fd) (mo : mg "sorted" = none) (ms : mg "set" = none)
    (GT : FnOk P w K mg base CX0 2 fT dT ["_law_kin", "_law_session_here"] spTorn) (bT : Binds K dT ["_law_kin", "_law_session_here"] []) (kT : PySem.W.keepIn K (.ref fT) = true) (mT : mg "_law_torn" = some (.ref fT))
    (GS : FnOk P w K mg base CX0 1 fS dS ["_law_kin", "_law_group_here"] spSplit) (bS : Binds K dS ["_law_kin", "_law_group_here"] []) (kS : PySem.W.keepIn K (.ref fS) = true) (mS : mg "_law_split" = some (.ref fS))
    (GR : FnOk P w K mg base CX0 3 fR dR ["_law_kin"] spRings) (bR : Binds K dR ["_law_kin"] []) (kR : PySem.W.keepIn K (.ref fR) = true) (mR : mg "_law_rings" = some (.ref fR)) :
    FnOk P w K mg base CX0 4 f fd ["_law_kin"] spReasons := by
  refine F.ok scReasons (fun vs H Q E h => ?_) (fun cdv A outer s H vs Q E hr h => ?_)
  · obtain ⟨k, L, rfl, _⟩ := h
    rfl
  · obtain ⟨kd, L, rfl, U, B, q⟩ := h
    have hu := hu_of hr
    have W := wfL B
    have h1 : Room 1 _ := hr.mono (by decide)
    have h2 : Room 2 _ := hr.mono (by decide)
    refine ⟨_, pss_cons (ps_set (i := 1) scReasons.nd rfl (.inl rfl) (pe_lst pa_nil))
      (pss_cons (ps_for PassesOwn.never rfl (pi_list (pe_callB (cr_sortedSet rfl) (by rfl) mo (by decide +kernel) (pa_cons (pe_callTy (cr_setL rfl) (by rfl) ms (by decide +kernel) (pa_cons (pe_lock
          (pe_lc (own := [("_law_n", 3)]) (g := gName 3) (tt := tYes) (te := tKin K 0 3 1) rfl scReasons.nd (pi_keys (pv 0)) (blkOk_by (N := nReasons) (sc := defScope sReasons) (by decide +kernel))
            (fun _ _ _ _ _ => pg_name (i := 3) scReasons.nd rfl (Or.inl rfl)) (fun _ _ _ _ _ => pts_nil) (fun _ _ _ _ _ => pe_ix ix_list (pe_dget hu (pv 0) (pv 3) (fun _ _ => rfl)) pe_int (fun _ _ => rfl)))) pa_nil)) pa_nil))) (pg_name (i := 2) scReasons.nd rfl (by first | exact .inl rfl | exact .inr rfl))
        (pss_one (ps_set (i := 1) scReasons.nd rfl (.inl rfl) (pe_op op_cat (pv 1)
          (pe_lc (own := [("_law_n", 3)]) (g := gName 3) (tt := tYes) (te := tTup (tCons (tC (.str "session")) (tCons (tVar 2) (tCons (tVar 3) tNil)))) rfl scReasons.nd (pi_list (pe_call GT h2 rfl mT kT bT .nil pass0 (pa_cons (pv 0) (pa_cons (pv 2) pa_nil)))) (blkOk_by (N := nReasons) (sc := defScope sReasons) (by decide +kernel))
            (fun _ _ _ _ _ => pg_name (i := 3) scReasons.nd rfl (Or.inl rfl)) (fun _ _ _ _ _ => pts_nil) (fun _ _ _ _ _ => pe_tup (pa_cons pe_str (pa_cons (pv 2) (pa_cons (pv 3) pa_nil)))))))))
      (pss_cons (ps_set (i := 4) scReasons.nd rfl (.inl rfl) (pe_callB (cr_sortedSet rfl) (by rfl) mo (by decide +kernel) (pa_cons (pe_callTy (cr_setL rfl) (by rfl) ms (by decide +kernel) (pa_cons (pe_lock
          (pe_lc (own := [("_law_n", 3)]) (g := gName 3) (tt := tYes) (te := tKin K 0 3 2) rfl scReasons.nd (pi_keys (pv 0)) (blkOk_by (N := nReasons) (sc := defScope sReasons) (by decide +kernel))
            (fun _ _ _ _ _ => pg_name (i := 3) scReasons.nd rfl (Or.inl rfl)) (fun _ _ _ _ _ => pts_nil) (fun _ _ _ _ _ => pe_ix ix_list (pe_dget hu (pv 0) (pv 3) (fun _ _ => rfl)) pe_int (fun _ _ => rfl)))) pa_nil)) pa_nil)))
      (pss_cons (ps_set (i := 1) scReasons.nd rfl (.inl rfl) (pe_op op_cat (pv 1)
          (pe_lc (own := [("_law_group_here", 5)]) (g := gName 5) (tt := tTest (tCall spSplit [] E0 (tCons (tVar 0) (tCons (tVar 5) tNil)))) (te := tTup (tCons (tC (.str "group")) (tCons (tVar 5) tNil))) rfl scReasons.nd (pi_list (pv 4)) (blkOk_by (N := nReasons) (sc := defScope sReasons) (by decide +kernel))
            (fun _ _ _ _ _ => pg_name (i := 5) scReasons.nd rfl (Or.inl rfl)) (fun _ _ _ _ _ => pts_one (pt_val (pe_call GS h1 rfl mS kS bS .nil pass0 (pa_cons (pv 0) (pa_cons (pv 5) pa_nil))))) (fun _ _ _ _ _ => pe_tup (pa_cons pe_str (pa_cons (pv 5) pa_nil))))))
      (pss_one (ps_ret (pe_op op_cat (pv 1)
          (pe_lc (own := [("_law_row", 6)]) (g := gName 6) (tt := tYes) (te := tTup (tCons (tC (.str "ring")) (tCons (tVar 6) tNil))) rfl scReasons.nd (pi_list (pe_call GR hr rfl mR kR bR .nil pass0 (pa_cons (pv 0) pa_nil))) (blkOk_by (N := nReasons) (sc := defScope sReasons) (by decide +kernel))
            (fun _ _ _ _ _ => pg_name (i := 6) scReasons.nd rfl (Or.inl rfl)) (fun _ _ _ _ _ => pts_nil) (fun _ _ _ _ _ => pe_tup (pa_cons pe_str (pa_cons (pv 6) pa_nil)))))))))), ?_⟩
    have few : (keys (famL L)).length ≤ 20 := by rw [len_keys]; exact W.few
    have part : ∀ s, ((keys (famL L)).filter (barsS (famL L) s)).length ≤ 20 := fun s => Nat.le_trans (List.length_filter_le _ _) few
    have slen : (sessions (famL L)).length ≤ 20 := by
      have := len_asc ((famL L).map (·.s))
      rw [List.length_map] at this
      have := W.few
      unfold sessions
      omega
    have glen : (groups (famL L)).length ≤ 20 := by
      have := len_asc ((famL L).map (·.g))
      rw [List.length_map] at this
      have := W.few
      unfold groups
      omega
    have lens : ((numsL L).map (ses (famL L))).length < 64 := by rw [List.length_map, len_nums]; have := lenL B; omega
    have leng : ((numsL L).map (grp (famL L))).length < 64 := by rw [List.length_map, len_nums]; have := lenL B; omega
    have es : asc ((numsL L).map (ses (famL L))) = sessions (famL L) := by
      have := asc_nums B (fun _ => true) (ses (famL L))
      rw [Evl.filter_all, Evl.filter_all, ses_map W] at this
      exact this
    have eg : asc ((numsL L).map (grp (famL L))) = groups (famL L) := by
      have := asc_nums B (fun _ => true) (grp (famL L))
      rw [Evl.filter_all, Evl.filter_all, grp_map W] at this
      exact this
    let fs : Int → List Rs := fun s => ((keys (famL L)).filter (barsS (famL L) s)).map (Rs.session s)
    have fsl : ∀ s, (fs s).length ≤ 20 := fun s => by
      show (((keys (famL L)).filter (barsS (famL L) s)).map (Rs.session s)).length ≤ 20
      rw [List.length_map]
      exact part s
    refine q_asgL (el_lst ea_nil (by show 0 ≤ 100000; omega)) fun q0 H1 nq e1 g1 => ?_
    have U1 := U.mono e1
    have lc := el_lockK (K := K) (t := tYes) (te := tKin K 0 3 1) (σ := [some (.ref kd), some (.ref q0), none, none, none, none, none]) (i0 := 0) (j := 3) (vs := [3]) U1 (lenL B) rfl (fun n => true) (fun n => .int (ses (famL L) n)) (fun x => rfl)
        (fun n m G N => et_yes) (fun n m _ G N => lk_ses B N (ev_var rfl) (ev_var rfl) (num_in B m))
    have e3 : ((numsL L).filter fun n => true).map (fun n => V.int (ses (famL L) n)) = ((numsL L).map (ses (famL L))).map V.int := by rw [Evl.filter_all, List.map_map]; rfl
    rw [e3] at lc
    have ss := el_sset (K := K) (w := w) lc lens
    rw [es] at ss
    refine q_forNLn (K := K) ss (fun p i σ G => (∃ v y2 y3 y4 y5 y6, σ = [some (.ref kd), some v, y2, y3, y4, y5, y6] ∧ Dx G v (.list ((((sessions (famL L)).take i).flatMap fs).map rsD))) ∧ Ex H G ∧ G p = some (.lst ((sessions (famL L)).map V.int)))
      (fun p H2 np e2 g2 => ⟨⟨_, _, _, _, _, _, rfl, .lst (e2 _ _ g1) .nil⟩, e1.trans e2, g2⟩) (fun p i σ G _ g => sq_of g.2.2) ?_ ?_
    · rintro p i x σ G hx ⟨⟨v, y2, y3, y4, y5, y6, rfl, dv⟩, eG, gp⟩
      obtain ⟨sn, en, rfl⟩ := ints_at hx
      have UG := U.mono eG
      have cT : SpL spTorn ([.ref kd, .int sn] ++ []) G (((keys (famL L)).filter (barsS (famL L) sn)).map V.int) := fun H2 e2 Q q E => ⟨kd, L, sn, rfl, (UG.mono e2).lk, B, List.mem_of_getElem? en, q⟩
      have cp : EvX _ [some (.ref kd), some v, some (.int sn), y3, y4, y5, y6] G _ := ex_lcN (K := K) (t := tYes) (te := tTup (tCons (tC (.str "session")) (tCons (tVar 2) (tCons (tVar 3) tNil)))) (j := 3) (vs := [3]) V.int (fun _ => true) (fun n => rsD (.session sn n)) (el_call (E := E0) (ea_cons (ev_var (i := 0) rfl) (ea_cons (ev_var (i := 2) rfl) ea_nil)) cT) (by have := part sn; omega) (fun x => rfl) (fun _ _ _ _ => et_yes)
        (fun b _ _ H2 e2 => em_tup (ea_cons ev_c (ea_cons (ev_var rfl) (ea_cons (ev_var rfl) ea_nil))) (.cons (.str _) (.cons (.int _) (.cons (.int _) .nil))) (by show 3 ≤ 100000; omega))
      rw [Evl.filter_all] at cp
      have lt : (((sessions (famL L)).take i).flatMap fs).length ≤ 400 := by
        have a := flat_len fs 20 fsl ((sessions (famL L)).take i)
        have b := List.length_take_le' i (sessions (famL L))
        have : 20 * ((sessions (famL L)).take i).length ≤ 20 * 20 := Nat.mul_le_mul_left 20 (by omega)
        omega
      refine s_asgX (ex_cat (ev_x (ev_var rfl) dv) cp (by rw [List.length_map, List.length_map]; have := part sn; omega)) fun u G2 e2 du => ⟨⟨u, _, _, _, _, _, rfl, ?_⟩, eG.trans e2, e2 _ _ gp⟩
      have tk : ((sessions (famL L)).take (i + 1)).flatMap fs = ((sessions (famL L)).take i).flatMap fs ++ fs sn := by
        rw [List.take_add_one, en, List.flatMap_append]
        simp
      rw [tk, List.map_append]
      have : (fs sn).map rsD = ((keys (famL L)).filter (barsS (famL L) sn)).map fun n => rsD (.session sn n) := by
        show (((keys (famL L)).filter (barsS (famL L) sn)).map (Rs.session sn)).map rsD = _
        rw [List.map_map]
        rfl
      rw [this]
      exact du
    · rintro p σ G ⟨⟨v, y2, y3, y4, y5, y6, rfl, dv⟩, eG, gp⟩
      rw [List.length_map, List.take_length] at dv
      have lt : ((sessions (famL L)).flatMap fs).length ≤ 400 := by
        have a := flat_len fs 20 fsl (sessions (famL L))
        have : 20 * (sessions (famL L)).length ≤ 20 * 20 := Nat.mul_le_mul_left 20 (by omega)
        omega
      have UG := U.mono eG
      have lc := el_lockK (K := K) (t := tYes) (te := tKin K 0 3 2) (σ := [some (.ref kd), some v, y2, y3, y4, y5, y6]) (i0 := 0) (j := 3) (vs := [3]) UG (lenL B) rfl (fun n => true) (fun n => .int (grp (famL L) n)) (fun x => rfl)
        (fun n m G N => et_yes) (fun n m _ G N => lk_grp B N (ev_var rfl) (ev_var rfl) (num_in B m))
      have e3 : ((numsL L).filter fun n => true).map (fun n => V.int (grp (famL L) n)) = ((numsL L).map (grp (famL L))).map V.int := by rw [Evl.filter_all, List.map_map]; rfl
      rw [e3] at lc
      have gg := el_sset (K := K) (w := w) lc leng
      rw [eg] at gg
      refine q_asgL gg fun gs H2 ng e2 g2 => ?_
      have U2 := UG.mono e2
      have cp : EvX _ [some (.ref kd), some v, y2, y3, some (.ref gs), y5, y6] H2 _ := ex_lcV (K := K) (t := tTest (tCall spSplit [] E0 (tCons (tVar 0) (tCons (tVar 5) tNil)))) (te := tTup (tCons (tC (.str "group")) (tCons (tVar 5) tNil))) (j := 5) (vs := [5]) V.int (splitB (famL L)) (fun g => rsD (.group g)) (ev_var (i := 4) rfl) (sq_of g2) (by omega) (fun x => rfl)
        (fun b mb H3 e3 => et_test (ev_call (ea_cons (ev_var rfl) (ea_cons (ev_var rfl) ea_nil)) (show SpV spSplit ([.ref kd, .int b] ++ []) H3 (.bl (splitB (famL L) b)) from fun H4 e4 Q q E => ⟨kd, L, b, rfl, U2.mono (e3.trans e4), B, mb, q⟩)))
        (fun b _ _ H3 e3 => em_tup (ea_cons ev_c (ea_cons (ev_var rfl) ea_nil)) (.cons (.str _) (.cons (.int _) .nil)) (by show 2 ≤ 100000; omega))
      have gl : ((groups (famL L)).filter (splitB (famL L))).length ≤ 20 := Nat.le_trans (List.length_filter_le _ _) glen
      refine q_asgX (ex_cat (ev_x (ev_var rfl) (dv.mono e2)) cp (by rw [List.length_map, List.length_map]; omega)) fun u H3 e3 du => ?_
      have U3 := U2.mono e3
      have cR : SpX spRings ([.ref kd] ++ []) H3 (.list (rowsD ((keys (famL L)).filterMap (ring (famL L))))) := fun H4 e4 Q q E => ⟨kd, L, rfl, (U3.mono e4).lk, B, q⟩
      have rl : ((keys (famL L)).filterMap (ring (famL L))).length ≤ 20 := Nat.le_trans (List.length_filterMap_le _ _) few
      have cp3 : EvX _ [some (.ref kd), some u, y2, y3, some (.ref gs), y5, y6] H3 _ := ex_lcD (K := K) (te := tTup (tCons (tC (.str "ring")) (tCons (tVar 6) tNil))) (j := 6) (vs := [6]) (fun d => .tuple [.str "ring", d]) (ex_call (E := E0) (ea_cons (ev_var (i := 0) rfl) ea_nil) cR) (by unfold rowsD; rw [List.length_map]; omega) (fun x => rfl)
        (fun x d _ H4 e4 dx => em_tup (ea_cons ev_c (ea_cons (ev_var rfl) ea_nil)) (.cons (.str _) (.cons dx .nil)) (by show 2 ≤ 100000; omega))
      refine s_retX (ex_cat (ev_x (ev_var rfl) du) cp3 (by unfold rowsD; simp only [List.length_append, List.length_map]; omega)) fun x H4 e4 dx => q x H4 (((eG.trans e2).trans e3).trans e4) ?_
      have : (reasons (famL L)).map rsD = ((sessions (famL L)).flatMap fs).map rsD ++ ((groups (famL L)).filter (splitB (famL L))).map (fun g => rsD (.group g)) ++ (rowsD ((keys (famL L)).filterMap (ring (famL L)))).map fun d => .tuple [.str "ring", d] := by
        unfold reasons rowsD
        rw [List.map_append, List.map_append, List.map_map, List.map_map, List.map_map]
        rfl
      rw [this]
      exact dx
end
end KB
set_option Elab.async false
set_option linter.all false
set_option maxRecDepth 100000
set_option maxHeartbeats 4000000
namespace KB
open PySem PySem.Spec PyProof.Rows L2 Evl
/-- small data, of nesting at most k -/
def Nice : Nat → PyData → Prop
  | _, .none => True
  | _, .bool _ => True
  | _, .int i => i.natAbs.log2 < 64
  | _, .str s => s.length ≤ 8 ∧ (∀ c ∈ s.cps.toList, c < 16 ^ 8) ∧ PyData.canLay0 (.str s) = true
  | 0, .list _ => False
  | 0, .tuple _ => False
  | k + 1, .list ds => ds.length ≤ 20 ∧ ∀ d ∈ ds, Nice k d
  | k + 1, .tuple ds => ds.length ≤ 20 ∧ ∀ d ∈ ds, Nice k d
  | _, .dict _ => False
theorem Nice.up : ∀ {k : Nat} {d : PyData}, Nice k d → Nice (k + 1) d
  | _, .none, _ => by simp [Nice]
  | _, .bool _, _ => by simp [Nice]
  | _, .int _, h => by simpa [Nice] using h
  | _, .str _, h => by simpa [Nice] using h
  | 0, .list _, h => by simp [Nice] at h
  | 0, .tuple _, h => by simp [Nice] at h
  | k + 1, .list ds, h => by
    have h2 : ds.length ≤ 20 ∧ ∀ d ∈ ds, Nice k d := by simpa [Nice] using h
    show ds.length ≤ 20 ∧ ∀ d ∈ ds, Nice (k + 1) d
    exact ⟨h2.1, fun d hd => Nice.up (h2.2 d hd)⟩
  | k + 1, .tuple ds, h => by
    have h2 : ds.length ≤ 20 ∧ ∀ d ∈ ds, Nice k d := by simpa [Nice] using h
    show ds.length ≤ 20 ∧ ∀ d ∈ ds, Nice (k + 1) d
    exact ⟨h2.1, fun d hd => Nice.up (h2.2 d hd)⟩
  | _, .dict _, h => by simp [Nice] at h
def B : Nat → Nat
  | 0 => 100
  | k + 1 => 20 * (B k + 2) + 10
theorem B_ge : ∀ k, 100 ≤ B k
  | 0 => Nat.le_refl _
  | k + 1 => by
    have := B_ge k
    show 100 ≤ 20 * (B k + 2) + 10
    omega
theorem piled_le {n : Nat} : ∀ ts : List Str, (∀ t ∈ ts, t.length ≤ n) → piled ts ≤ ts.length * (n + 2)
  | [], _ => Nat.zero_le _
  | t :: ts, h => by
    have h1 := h t List.mem_cons_self
    have h2 := piled_le ts fun z hz => h z (List.mem_cons_of_mem _ hz)
    rw [piled_cons, List.length_cons, Nat.succ_mul]
    omega
theorem list_text (ts : List Str) : (listText ts).length ≤ piled ts + 2 := by
  cases ts with
  | nil => decide +kernel
  | cons t r =>
    have e := textFrom_length_pos r 1 (("[" : Str) ++ (if 0 > 0 then ", " else "" : String) ++ t) (by decide)
    show (textFrom 1 (("[" : Str) ++ (if 0 > 0 then ", " else "" : String) ++ t) r ++ "]").length ≤ _
    have e1 : ((("[" : String) : Str)).length = 1 := rfl
    have e2 : ((("]" : String) : Str)).length = 1 := rfl
    have e3 : (((if 0 > 0 then ", " else "" : String) : Str)).length = 0 := by decide +kernel
    rw [strLen_append, e, strLen_append, strLen_append, e1, e2, e3, piled_cons]
    omega
theorem shown_mem : ∀ {ds : List PyData} {t : Str}, t ∈ PyData.shownAll ds → ∃ d ∈ ds, t = d.shown
  | [], t, h => by simp [PyData.shownAll] at h
  | d :: ds, t, h => by
    simp only [PyData.shownAll, List.mem_cons] at h
    rcases h with h | h
    · exact ⟨d, List.mem_cons_self, h⟩
    · obtain ⟨e, he, ht⟩ := shown_mem h
      exact ⟨e, List.mem_cons_of_mem _ he, ht⟩
theorem shown_len : ∀ ds : List PyData, (PyData.shownAll ds).length = ds.length
  | [] => by simp [PyData.shownAll]
  | d :: ds => by simp [PyData.shownAll, shown_len ds]
theorem Nice.len : ∀ {k : Nat} {d : PyData}, Nice k d → d.shown.length ≤ B k
  | k, .none, _ => Nat.le_trans (by decide +kernel) (B_ge k)
  | k, .bool b, _ => Nat.le_trans (by cases b <;> decide +kernel) (B_ge k)
  | k, .int i, h => by
    have h2 : i.natAbs.log2 < 64 := by simpa [Nice] using h
    have e := int_text_length_le (k := 64) (by decide) h2
    refine Nat.le_trans ?_ (B_ge k)
    show (Str.ofString (toString i)).length ≤ 100
    rw [PySem.ofString_length]
    omega
  | k, .str s, h => by
    have h2 : s.length ≤ 8 ∧ (∀ c ∈ s.cps.toList, c < 16 ^ 8) ∧ PyData.canLay0 (.str s) = true := by simpa [Nice] using h
    have e := StrLaws.reprText_len s h2.2.1
    refine Nat.le_trans ?_ (B_ge k)
    show (reprText s).length ≤ 100
    omega
  | 0, .list _, h => by simp [Nice] at h
  | 0, .tuple _, h => by simp [Nice] at h
  | k + 1, .list ds, h => by
    have h2 : ds.length ≤ 20 ∧ ∀ d ∈ ds, Nice k d := by simpa [Nice] using h
    have e := piled_le (n := B k) (PyData.shownAll ds) fun t ht => by
      obtain ⟨d, hd, rfl⟩ := shown_mem ht
      exact Nice.len (h2.2 d hd)
    have f := list_text (PyData.shownAll ds)
    rw [shown_len] at e
    have g : ds.length * (B k + 2) ≤ 20 * (B k + 2) := Nat.mul_le_mul_right _ h2.1
    simp only [PyData.shown]
    show _ ≤ 20 * (B k + 2) + 10
    omega
  | k + 1, .tuple ds, h => by
    have h2 : ds.length ≤ 20 ∧ ∀ d ∈ ds, Nice k d := by simpa [Nice] using h
    have e := piled_le (n := B k) (PyData.shownAll ds) fun t ht => by
      obtain ⟨d, hd, rfl⟩ := shown_mem ht
      exact Nice.len (h2.2 d hd)
    have f := fmt_text (PyData.shownAll ds)
    rw [shown_len] at e
    have g : ds.length * (B k + 2) ≤ 20 * (B k + 2) := Nat.mul_le_mul_right _ h2.1
    simp only [PyData.shown]
    show _ ≤ 20 * (B k + 2) + 10
    omega
  | _, .dict _, h => by simp [Nice] at h
theorem all_of {ds : List PyData} (h : ∀ d ∈ ds, d.showable = true ∧ d.canLay0 = true) : PyData.showableAll ds = true ∧ PyData.canLayAll0 ds = true := by
  induction ds with
  | nil => exact ⟨by simp [PyData.showableAll], by simp [PyData.canLayAll0]⟩
  | cons d ds ih =>
    have h1 := h d List.mem_cons_self
    have h2 := ih fun e he => h e (List.mem_cons_of_mem _ he)
    exact ⟨by simp [PyData.showableAll, h1.1, h2.1], by simp [PyData.canLayAll0, h1.2, h2.2]⟩
theorem depth_of {k : Nat} {ds : List PyData} (h : ∀ d ∈ ds, d.depth ≤ k) : PyData.depthAll ds ≤ k := by
  induction ds with
  | nil => simp [PyData.depthAll]
  | cons d ds ih =>
    have h1 := h d List.mem_cons_self
    have h2 := ih fun e he => h e (List.mem_cons_of_mem _ he)
    simp only [PyData.depthAll]
    omega
theorem Nice.show : ∀ {k : Nat} {d : PyData}, Nice k d → (d.showable = true ∧ d.canLay0 = true) ∧ d.depth ≤ k
  | k, .none, _ => ⟨⟨by simp [PyData.showable], by simp [PyData.canLay0]⟩, by simp [PyData.depth]⟩
  | k, .bool b, _ => ⟨⟨by simp [PyData.showable], by simp [PyData.canLay0]⟩, by simp [PyData.depth]⟩
  | k, .int i, h => by
    have h2 : i.natAbs.log2 < 64 := by simpa [Nice] using h
    exact ⟨⟨by simp only [PyData.showable]; exact decide_eq_true (by omega), by simp [PyData.canLay0]⟩, by simp [PyData.depth]⟩
  | k, .str s, h => by
    have h2 : s.length ≤ 8 ∧ (∀ c ∈ s.cps.toList, c < 16 ^ 8) ∧ PyData.canLay0 (.str s) = true := by simpa [Nice] using h
    exact ⟨⟨by simp [PyData.showable], h2.2.2⟩, by simp [PyData.depth]⟩
  | 0, .list _, h => by simp [Nice] at h
  | 0, .tuple _, h => by simp [Nice] at h
  | k + 1, .list ds, h => by
    have h2 : ds.length ≤ 20 ∧ ∀ d ∈ ds, Nice k d := by simpa [Nice] using h
    have a := all_of fun d hd => (Nice.show (h2.2 d hd)).1
    have b := depth_of fun d hd => (Nice.show (h2.2 d hd)).2
    exact ⟨⟨by simp only [PyData.showable]; exact a.1, by simp only [PyData.canLay0]; exact a.2⟩, by simp only [PyData.depth]; omega⟩
  | k + 1, .tuple ds, h => by
    have h2 : ds.length ≤ 20 ∧ ∀ d ∈ ds, Nice k d := by simpa [Nice] using h
    have a := all_of fun d hd => (Nice.show (h2.2 d hd)).1
    have b := depth_of fun d hd => (Nice.show (h2.2 d hd)).2
    exact ⟨⟨by simp only [PyData.showable]; exact a.1, by simp only [PyData.canLay0]; exact a.2⟩, by simp only [PyData.depth]; omega⟩
  | _, .dict _, h => by simp [Nice] at h
mutual
theorem Dx.dp {K : PySem.W.Frag} {H : Hp} : ∀ {v : V} {d : PyData}, Dx H v d → Dp K H v d
  | _, _, .non => .non
  | _, _, .bl b => .bl b
  | _, _, .int i => .int i
  | _, _, .str x => .str x
  | _, _, .lst e h => .lst (SqL.of e) (DxAll.dp h)
  | _, _, .tup e h => .tup (SqT.of e) (DxAll.dp h)
theorem DxAll.dp {K : PySem.W.Frag} {H : Hp} : ∀ {vs : List V} {ds : List PyData}, DxAll H vs ds → DpAll K H vs ds
  | _, _, .nil => .nil
  | _, _, .cons h t => .cons (Dx.dp h) (DxAll.dp t)
end
theorem nice_facts {K : PySem.W.Frag} {H : Hp} {v : V} {k : Nat} {d : PyData} (h : Dx H v d) (n : Nice k d) (hk : k ≤ 4) : Dp K H v d ∧ SeqAt.shaped d = true ∧ d.showable = true ∧ d.hasDict = false ∧ d.shown.length ≤ sizeLine ∧ (∀ i, d = .int i → i.natAbs.log2 < 1920) := by
  have s := n.show
  have l := n.len
  have bk : B k ≤ sizeLine := by
    rw [sizeLine_eq]
    match k, hk with
    | 0, _ => decide
    | 1, _ => decide
    | 2, _ => decide
    | 3, _ => decide
    | 4, _ => decide
  refine ⟨h.dp, ?_, s.1.1, PyData.hasDict_of_canLay d s.1.2, Nat.le_trans l bk, fun i e => ?_⟩
  · show (d.canLay0 && decide (d.depth ≤ 64)) = true
    rw [s.1.2, decide_eq_true (by have := s.2; omega)]
    rfl
  · subst e
    have h2 : i.natAbs.log2 < 64 := by simpa [Nice] using n
    omega
end KB
set_option Elab.async false
set_option linter.all false
set_option maxRecDepth 100000
set_option maxHeartbeats 4000000
namespace Evl
open PySem L2
section
variable {K : PySem.W.Frag} {σ : L2.St} {H H' G : Hp} {ta tb te tx td tl : TE} {t u : TT} {x y z v : V} {D : Ends} {tz : TS}
theorem q_parVL {xs : List V} {i j : Nat} (h1 : Ev ta σ H v) (h2 : EvL tb σ H xs) (k : ∀ p H1, H p = none → Ex H H1 → H1 p = some (.lst xs) → tz D ((σ.set i (some v)).set j (some (.ref p))) H1) : tSeq (tPar i j (tCons ta (tCons tb tNil))) tz D σ H :=
  h1 H (Ex.refl H) _ fun H1 e1 => h2 H1 e1 _ fun p H2 np e2 g2 => ⟨_, _, rfl, k p H2 (fresh_back e1 np) (e1.trans e2) g2⟩
theorem ev_all {bs : List Bool} (h : EvL tl σ H (bs.map V.bl)) : Ev (tCB (rAll K) (tCons tl tNil)) σ H (.bl (bs.all id)) := fun H1 e Q q => h H1 e _ fun D G2 nD e2 gD => ⟨D, bs, rfl, sq_of gD, q G2 e2⟩
theorem lay_ints : ∀ (ns : List Int), PyData.canLayAll0 (ns.map PyData.int) = true ∧ PyData.depthAll (ns.map PyData.int) = 0
  | [] => ⟨by simp [PyData.canLayAll0], by simp [PyData.depthAll]⟩
  | n :: ns => by
    obtain ⟨a, b⟩ := lay_ints ns
    exact ⟨by simp [PyData.canLayAll0, PyData.canLay0, a], by simp [PyData.depthAll, PyData.depth, b]⟩
theorem shaped_ints (ns : List Int) : SeqAt.shaped (.list (ns.map PyData.int)) = true := by
  obtain ⟨a, b⟩ := lay_ints ns
  show ((PyData.list (ns.map PyData.int)).canLay0 && decide ((PyData.list (ns.map PyData.int)).depth ≤ 64)) = true
  have h1 : (PyData.list (ns.map PyData.int)).canLay0 = true := by simp only [PyData.canLay0]; exact a
  have h2 : (PyData.list (ns.map PyData.int)).depth ≤ 64 := by simp only [PyData.depth]; omega
  rw [h1, decide_eq_true h2]
  rfl
theorem dp_ints {H : Hp} : ∀ (ns : List Int), DpAll K H (ns.map V.int) (ns.map PyData.int)
  | [] => .nil
  | n :: ns => .cons (.int n) (dp_ints ns)
/-- xs != [] -/
theorem et_nenil {a : Addr} {ns : List Int} (h : Ev ta σ H (.ref a)) (g : H a = some (.lst (ns.map V.int))) : EvT (tTest (tOp (rNeD K) ta (tLst tNil))) σ H (!decide (ns = [])) := by
  refine et_test (ev_opL h (el_lst ea_nil (by show 0 ≤ 100000; omega)) fun p H1 hp e1 => rv_val fun H2 e2 Q q => ⟨.list (ns.map PyData.int), .list [], .lst (sq_of (e2 _ _ (e1 _ _ g))) (dp_ints ns), .lst (sq_of (e2 _ _ hp)) .nil, shaped_ints ns, rfl, ?_⟩)
  have : PyData.eqv (.list (ns.map PyData.int)) (.list []) = decide (ns = []) := by
    cases ns <;> simp [PyData.eqv, PyData.eqvAll]
  rw [this]
  exact q
end
end Evl
namespace KB
open PySem PySem.Spec PyProof.Rows L2 Evl
def Apt (p : Addr) (L : List Ent) : Prop := ∀ e ∈ L, e.2 ≠ p
/-- small numbers all -/
def Bd (L : List Ent) : Prop := ∀ e ∈ L, e.1.n ≤ 199 ∧ 0 ≤ e.1.s ∧ e.1.s ≤ 300 ∧ 0 ≤ e.1.g ∧ e.1.g ≤ 300
theorem LkU.off {p kd : Addr} {H H' : Hp} {L : List Ent} (o : Off p H H') (h : LkU H kd L) (nk : kd ≠ p) (ap : Apt p L) : LkU H' kd L := ⟨o _ _ nk h.top, fun e m => o _ _ (ap e m) (h.rows e m)⟩
theorem Src.ex {H H' : Hp} {p : Addr} {c : Int} (e : Ex H H') (S : Src H p c) : Src H' p c := by
  obtain ⟨a, b, h, r⟩ := S
  exact ⟨a, b, e _ _ h, r⟩
theorem Off.trans {p : Addr} {H H1 H2 : Hp} (a : Off p H H1) (b : Off p H1 H2) : Off p H H2 := fun c o n h => b c o n (a c o n h)
theorem ex_off {p : Addr} {H H' : Hp} (e : Ex H H') : Off p H H' := fun b o _ h => e b o h
theorem kd_ne {p kd : Addr} {H : Hp} {c : Int} {L : List Ent} (S : Src H p c) (U : LkU H kd L) : kd ≠ p := fun z => by
  obtain ⟨a, b, h, _⟩ := S
  have := U.top
  rw [z, h] at this
  cases this
theorem bd_ses {L : List Ent} (B : Born (rowsL L)) (b : Bd L) {n : Int} (h : n ∈ keys (famL L)) : n ≤ 199 ∧ 0 ≤ n ∧ 0 ≤ ses (famL L) n ∧ ses (famL L) n ≤ 300 := by
  obtain ⟨e, m, rfl⟩ := in_keys B h
  have := b e m
  rw [(wfL B).ses (row_in B m)]
  have := (wfL B).low e.1 (row_in B m)
  exact ⟨by omega, by omega, by omega, by omega⟩
/-- a session that is drawn so that the family can be built -/
def Drawn0 (M : Fam) (n s : Int) : Prop := s = n ∨ (s ∈ keys M ∧ s ≠ n ∧ ses M s = s ∧ adopter M s = up M n) ∨ (s = if up M n = 1 then 1 else ses M (up M n)) ∨ ((s = 30 ∨ s = 31) ∧ ado M (up M n) = true ∧ ∀ k ∈ tops M s, up M k = up M n)
abbrev sSession : Stmt := topS 37
abbrev nSession : List Str := ["_law_box_here", "_law_kin", "_law_names_here", "_law_n", "_law_mode", "_law_up", "_law_way", "_law_its", "_law_later", "_law_k", "_law_some", "_law_lost", "_law_fine"]
theorem scSession : FnScope nSession ["_law_box_here", "_law_kin", "_law_names_here", "_law_n", "_law_mode"] (defScope sSession) := ⟨rfl, rfl, rfl, by decide +kernel, rfl, by decide +kernel, by decide +kernel⟩
def spSession : Sp := fun vs H Q _ => ∃ (p kd nm : Addr) (c n md : Int) (L : List Ent) (ns : List Int), vs = [.ref p, .ref kd, .ref nm, .int n, .int md] ∧ Src H p c ∧ c < 500000 ∧ LkU H kd L ∧ Born (rowsL L) ∧ Apt p L ∧ nm ≠ p ∧ H nm = some (.lst (ns.map V.int)) ∧ (∀ x ∈ ns, 0 ≤ x ∧ x ≤ 300) ∧ ns.length ≤ 20 ∧
  n ∈ keys (famL L) ∧ Bd L ∧ ∀ (s c' : Int) (H' : Hp), 0 ≤ s → s ≤ 300 → (md = 0 → Drawn0 (famL L) n s) → Off p H H' → Src H' p c' → c ≤ c' → c' ≤ c + 2 → Q (.int s) H'
section
variable {P : Program} {w : World} {K : PySem.W.Frag} {mg : Str → Option Value} {base : Heap} {f fD fP fA fT : Addr} {fd dD dP dA dT : FuncData}
theorem ok_session (F : Fun K "_law_session" "_law_session" sSession f fd) (mo : mg "sorted" = none) (ma : mg "all" = none)
    (GD : FnOk P w K mg base CX0 1 fD dD ["_law_box_here", "_law_below"] spTake) (bD : Binds K dD ["_law_box_here", "_law_below"] []) (kD : PySem.W.keepIn K (.ref fD) = true) (mD : mg "_law_take" = some (.ref fD))
    (GP : FnOk P w K mg base CX0 2 fP dP ["_law_box_here", "_law_some"] spPick) (bP : Binds K dP ["_law_box_here", "_law_some"] []) (kP : PySem.W.keepIn K (.ref fP) = true) (mP : mg "_law_pick" = some (.ref fP))
    (GA : FnOk P w K mg base CX0 1 fA dA ["_law_kin", "_law_n"] spLAbove) (bA : Binds K dA ["_law_kin", "_law_n"] []) (kA : PySem.W.keepIn K (.ref fA) = true) (mA : mg "_law_above" = some (.ref fA))
    (GT : FnOk P w K mg base CX0 1 fT dT ["_law_kin", "_law_session_here"] spLTops) (bT : Binds K dT ["_law_kin", "_law_session_here"] []) (kT : PySem.W.keepIn K (.ref fT) = true) (mT : mg "_law_tops" = some (.ref fT)) :
    FnOk P w K mg base CX0 3 f fd ["_law_box_here", "_law_kin", "_law_names_here", "_law_n", "_law_mode"] spSession := by
  refine F.ok scSession (fun vs H Q E h => ?_) (fun cdv A outer s H vs Q E hr h => ?_)
  · obtain ⟨p, kd, nm, c, n, md, L, ns, rfl, _⟩ := h
    rfl
  · obtain ⟨p, kd, nm, c, n, md, L, ns, rfl, S, hc, U, B, ap, nmp, gnm, bns, lns, mn, bd, q⟩ := h
    have hu := hu_of hr
    have W := wfL B
    have h1 : Room 1 _ := hr.mono (by decide)
    refine ⟨_, pss_cons (ps_asg (pe_tup (pa_cons (pe_ix ix_list (pe_dget hu (pv 1) (pv 3) (fun _ _ => rfl)) pe_int (fun _ _ => rfl)) (pa_cons (pe_call GD h1 rfl mD kD bD .nil pass0 (pa_cons (pv 0) (pa_cons pe_int pa_nil))) pa_nil)))
        (pg_tup rfl (pgs_cons (pg_name (i := 5) scSession.nd rfl (by first | exact .inl rfl | exact .inr rfl)) (pgs_cons (pg_name (i := 6) scSession.nd rfl (by first | exact .inl rfl | exact .inr rfl)) pgs_nil))))
      (pss_cons (ps_par (i := 7) (j := 8) rfl scSession.nd rfl rfl (by decide) rfl rfl (pa_cons (pe_ifExp (pt_cmpR op_eq (pv 5) pe_int (nomark _)) pe_int (pe_ix ix_list (pe_dget hu (pv 1) (pv 5) (fun _ _ => rfl)) pe_int (fun _ _ => rfl))) (pa_cons
          (pe_lc (own := [("_law_k", 9)]) (g := gName 9) (tt := tTest (tDNotIn (tVar 9) (tVar 1))) (te := tVar 9) rfl scSession.nd (pi_list (pv 2)) (blkOk_by (N := nSession) (sc := defScope sSession) (by decide +kernel))
            (fun _ _ _ _ _ => pg_name (i := 9) scSession.nd rfl (Or.inl rfl)) (fun _ _ _ _ _ => pts_one (pt_cmp (pc_dnotin hu (pv 9) (pv 1)))) (fun _ _ _ _ _ => pv 9)) pa_nil)) (by rfl))
      (pss_cons (ps_if (PW.pt (pw_or (pt_cmpR op_lt (pv 6) pe_int (nomark _)) (pw_or1 (PW.pt (pw_and (pt_cmpR op_eq (pv 4) pe_int (nomark _)) (pw_and1 (pt_cmpR op_in_seq (pv 3) (pe_lock
          (pe_lc (own := [("_law_k", 9)]) (g := gName 9) (tt := tYes) (te := tKin K 1 9 1) rfl scSession.nd (pi_keys (pv 1)) (blkOk_by (N := nSession) (sc := defScope sSession) (by decide +kernel))
            (fun _ _ _ _ _ => pg_name (i := 9) scSession.nd rfl (Or.inl rfl)) (fun _ _ _ _ _ => pts_nil) (fun _ _ _ _ _ => pe_ix ix_list (pe_dget hu (pv 1) (pv 9) (fun _ _ => rfl)) pe_int (fun _ _ => rfl)))) rfl))))))) (pss_one (ps_ret (pv 3))) pss_nil)
      (pss_cons (ps_if (pt_cmpR op_lt (pv 6) pe_int (nomark _))
        (pss_cons (ps_setLc (i := 10) (own := [("_law_k", 9)]) (g := gName 9) (tt := tAnd (tTest (tOp rNe (tVar 9) (tVar 3))) (tAnd (tTest (tOp rEq (tKin K 1 9 1) (tVar 9))) (tTest (tOp rEq (tCall spLAbove [] E0 (tCons (tVar 1) (tCons (tVar 9) tNil))) (tVar 5))))) (te := tVar 9) rfl scSession.nd rfl rfl (sw_true rfl rfl rfl (by decide +kernel)) (pi_list (pe_callB (cr_srtD rfl) (by rfl) mo (by decide +kernel) (pa_cons (pv 1) pa_nil))) (blkOk_by (N := nSession) (sc := defScope sSession) (by decide +kernel))
            (fun _ _ _ _ _ => pg_name (i := 9) scSession.nd rfl (Or.inl rfl)) (fun _ _ _ _ _ => pts_one (PW.pt (pw_and (pt_cmpR op_ne (pv 9) (pv 3) (nomark _)) (pw_and (pt_cmpR op_eq (pe_ix ix_list (pe_dget hu (pv 1) (pv 9) (fun _ _ => rfl)) pe_int (fun _ _ => rfl)) (pv 9) (nomark _)) (pw_and1 (pt_cmpR op_eq (pe_call GA h1 rfl mA kA bA .nil pass0 (pa_cons (pv 1) (pa_cons (pv 9) pa_nil))) (pv 5) (nomark _))))))) (fun _ _ _ _ _ => pv 9))
        (pss_one (ps_ret (pe_ifExp (pt_cmpR (op_neD hr.units) (pv 10) (pe_lst pa_nil) (nomark _)) (pe_call GP hr rfl mP kP bP .nil pass0 (pa_cons (pv 0) (pa_cons (pv 10) pa_nil))) (pv 7))))) pss_nil)
      (pss_cons (ps_if (PW.pt (pw_and (pt_cmpR op_eq (pv 6) pe_int (nomark _)) (pw_and1 (pt_cmpR op_lt (pv 4) pe_int (nomark _)))))
        (pss_cons (ps_set (i := 11) scSession.nd rfl (.inl rfl) (pe_call GP hr rfl mP kP bP .nil pass0 (pa_cons (pv 0) (pa_cons (pe_lst (pa_cons pe_int (pa_cons pe_int pa_nil))) pa_nil))))
        (pss_cons (ps_set (i := 12) scSession.nd rfl (.inl rfl) (pe_and (pe_or (pe_cmpR op_eq (pv 5) pe_int (nomark _)) (pe_one (pe_ix ix_list (pe_dget hu (pv 1) (pv 5) (fun _ _ => rfl)) pe_int (fun _ _ => rfl)))) (pe_one (pe_callB (cr_all rfl) (by rfl) ma (by decide +kernel) (pa_cons
            (pe_lc (own := [("_law_k", 9)]) (g := gName 9) (tt := tYes) (te := tOp rEq (tKin K 1 9 0) (tVar 5)) rfl scSession.nd (pi_list (pe_call GT h1 rfl mT kT bT .nil pass0 (pa_cons (pv 1) (pa_cons (pv 11) pa_nil)))) (blkOk_by (N := nSession) (sc := defScope sSession) (by decide +kernel))
              (fun _ _ _ _ _ => pg_name (i := 9) scSession.nd rfl (Or.inl rfl)) (fun _ _ _ _ _ => pts_nil) (fun _ _ _ _ _ => pe_cmpR op_eq (pe_ix ix_list (pe_dget hu (pv 1) (pv 9) (fun _ _ => rfl)) pe_int (fun _ _ => rfl)) (pv 5) (nomark _))) pa_nil)))))
        (pss_one (ps_ret (pe_ifExp (PW.pt (pw_or (pt_val (pv 12)) (pw_or1 (pt_cmpR op_eq (pv 4) pe_int (nomark _))))) (pv 11) (pv 7)))))) pss_nil)
      (pss_cons (ps_if (PW.pt (pw_and (pt_cmpR op_eq (pv 6) pe_int (nomark _)) (pw_and1 (pt_cmpR op_eq (pv 4) pe_int (nomark _))))) (pss_one (ps_ret (pe_call GP hr rfl mP kP bP .nil pass0 (pa_cons (pv 0) (pa_cons (pe_op op_cat (pv 2) (pe_lst (pa_cons pe_int (pa_cons pe_int pa_nil)))) pa_nil))))) pss_nil)
      (pss_one (ps_ret (pe_ifExp (PW.pt (pw_and (pt_cmpR op_eq (pv 4) pe_int (nomark _)) (pw_and1 (pt_cmpR (op_neD hr.units) (pv 8) (pe_lst pa_nil) (nomark _))))) (pe_call GP hr rfl mP kP bP .nil pass0 (pa_cons (pv 0) (pa_cons (pv 8) pa_nil))) (pv 7))))))))), ?_⟩
    have nk := kd_ne S U
    -- up, way
    refine lk_up B U.lk (ev_var rfl) (ev_var rfl) mn H (Ex.refl H) _ fun H1 e1 => ?_
    refine ⟨_, rfl, p, c, 9, rfl, S.ex e1, by omega, by decide, by decide, fun way c1 zs w0 w1 c10 c11 S2 => ⟨by show 2 ≤ sizeLine; decide, fun tt nt => ?_⟩⟩
    have o2 : Off p H (upd (upd H1 p (.lst zs)) tt (.tup [.int (up (famL L) n), .int way])) := fun b o nb h => Ex.new nt b o (by rw [upd_ne nb]; exact e1 b o h)
    have S3 := S2.ex (Ex.new (o := .tup [.int (up (famL L) n), .int way]) nt)
    refine ⟨tt, _, rfl, .inl (.inl upd_same), rfl, _, _, rfl, _, _, rfl, rfl, ?_⟩
    generalize upd (upd H1 p (.lst zs)) tt (.tup [.int (up (famL L) n), .int way]) = H2 at o2 S3 ⊢
    clear S2 nt
    have U2 := U.off o2 nk ap
    have N2 := U2.lk
    have gn2 := o2 _ _ nmp gnm
    have mu : up (famL L) n = 1 ∨ up (famL L) n ∈ keys (famL L) := by
      by_cases z : up (famL L) n = 1
      · exact .inl z
      · exact .inr (W.up_in mn z)
    -- its, later
    have its : ∃ v : Int, 0 ≤ v ∧ v ≤ 300 ∧ (v = if up (famL L) n = 1 then 1 else ses (famL L) (up (famL L) n)) ∧ Ev (tIf (tTest (tOp rEq (tVar 5) (tC (.int 1)))) (tC (.int 1)) (tKin K 1 5 1)) [some (.ref p), some (.ref kd), some (.ref nm), some (.int n), some (.int md), some (.int (up (famL L) n)), some (.int way), none, none, none, none, none, none] H2 (.int v) := by
      by_cases z : up (famL L) n = 1
      · exact ⟨1, by decide, by decide, (if_pos z).symm, ev_if (b := true) (et_is (et_test (ev_op (ev_var rfl) ev_c (rv_eq rfl))) (by rw [dec_int]; exact decide_eq_true z)) (fun _ => ev_c) (fun h => nomatch h)⟩
      · have mk := W.up_in mn z
        have b4 := bd_ses B bd mk
        exact ⟨_, b4.2.2.1, b4.2.2.2, (if_neg z).symm, ev_if (b := false) (et_is (et_test (ev_op (ev_var rfl) ev_c (rv_eq rfl))) (by rw [dec_int]; exact decide_eq_false z)) (fun h => nomatch h) (fun _ => lk_ses B N2 (ev_var rfl) (ev_var rfl) mk)⟩
    obtain ⟨it, it0, it1, its, evit⟩ := its
    have dit : md = 0 → Drawn0 (famL L) n it := fun _ => .inr (.inr (.inl its))
    refine q_parVL evit (el_lcG (K := K) (j := 9) (vs := [9]) V.int (fun k => !decide (k ∈ keys (famL L))) V.int (ev_var rfl) (sq_of gn2) (by omega) (fun x => rfl) (fun b _ G e => et_test (lk_nin B (N2.mono e) (ev_var rfl) (ev_var rfl))) (fun b _ _ G e => ev_var rfl)) fun lt H3 nlt e3 glt => ?_
    have o3 := o2.ex e3
    have U3 := U2.mono e3
    have S4 := S3.ex e3
    have plt : lt ≠ p := fun z => by
      obtain ⟨a, b, h, _⟩ := S3
      rw [z, h] at nlt
      cases nlt
    have ltb : ∀ x ∈ ns.filter (fun k => !decide (k ∈ keys (famL L))), 0 ≤ x ∧ x ≤ 300 := fun x m => bns x (List.mem_filter.mp m).1
    have ltl : (ns.filter (fun k => !decide (k ∈ keys (famL L)))).length ≤ 20 := Nat.le_trans (List.length_filter_le _ _) lns
    generalize ns.filter (fun k => !decide (k ∈ keys (famL L))) = later at glt ltb ltl
    -- a pick that ends it
    have pick : ∀ {G : Hp} {l : Addr} {xs : List Int} {D : Ends}, D.rt = Q → Off p H G → Src G p c1 → l ≠ p → G l = some (.lst (xs.map V.int)) → xs ≠ [] → xs.length ≤ 100 → (∀ x ∈ xs, 0 ≤ x ∧ x ≤ 300) → (∀ x ∈ xs, md = 0 → Drawn0 (famL L) n x) → spPick [.ref p, .ref l] G D.rt E0 := fun {G l xs D} eD o S nl g ne hl hb hd => by
      refine ⟨p, l, c1, xs.map V.int, rfl, S, by omega, nl, g, by rw [List.length_map]; exact List.length_pos_iff.mpr ne, by rw [List.length_map]; omega, fun v c' zs mv c0 c2 S' => ?_⟩
      obtain ⟨x, mx, rfl⟩ := List.mem_map.mp mv
      rw [eD]
      exact q x c' _ (hb x mx).1 (hb x mx).2 (hd x mx) (fun b u nb h => by rw [upd_ne nb]; exact o b u nb h) S' (by omega) (by omega)
    have kb : ∀ x ∈ keys (famL L), 0 ≤ x ∧ x ≤ 300 := fun x m => by have := bd_ses B bd m; exact ⟨by omega, by omega⟩
    have few : (keys (famL L)).length ≤ 20 := by rw [len_keys]; exact W.few
    have lk1 := el_lockK (K := K) (t := tYes) (te := tKin K 1 9 1) (σ := [some (.ref p), some (.ref kd), some (.ref nm), some (.int n), some (.int md), some (.int (up (famL L) n)), some (.int way), some (.int it), some (.ref lt), none, none, none, none]) (i0 := 1) (j := 9) (vs := [9]) U3 (lenL B) rfl (fun n => true) (fun n => .int (ses (famL L) n)) (fun x => rfl)
        (fun n m G N => et_yes) (fun n m _ G N => lk_ses B N (ev_var rfl) (ev_var rfl) (num_in B m))
    have e5 : ((numsL L).filter fun n => true).map (fun n => V.int (ses (famL L) n)) = ((numsL L).map (ses (famL L))).map V.int := by rw [Evl.filter_all, List.map_map]; rfl
    rw [e5] at lk1
    refine q_when (et_or (et_test (ev_op (ev_var rfl) ev_c rv_I0)) (fun _ => et_and (et_test (ev_op (ev_var rfl) ev_c (rv_eq rfl))) (fun _ => et_test (ev_opL (ev_var rfl) lk1 (fun p H4 hp e4 => rv_inI (sq_of hp)))))) (fun _ H4 e4 => ?_) (fun _ H4 e4 => ?_)
    · exact s_ret (ev_var rfl) fun H5 e5 => q n c1 H5 (kb n mn).1 (kb n mn).2 (fun _ => .inl rfl) (o3.ex (e4.trans e5)) (S4.ex (e4.trans e5)) c10 (by omega)
    have o4 := o3.ex e4
    have U4 := U3.mono e4
    have S5 := S4.ex e4
    refine q_when (et_test (ev_op (ev_var rfl) ev_c rv_I0)) (fun _ H5 e5 => ?_) (fun _ H5 e5 => ?_)
    · have U5 := U4.mono e5
      refine q_asgL (el_lcGN (K := K) (j := 9) (vs := [9]) V.int (fun k => !decide (k = n) && (decide (ses (famL L) k = k) && decide (adopter (famL L) k = up (famL L) n))) V.int (lk_sorted B U5.lk (ev_var rfl)) (by omega) (fun x => rfl) (fun b mb G e => et_and (et_is (et_test (ev_op (ev_var rfl) (ev_var rfl) (rv_ne rfl))) (by rw [dec_int])) (fun _ => et_and (et_is (et_test (ev_op (lk_ses B (U5.mono e).lk (ev_var rfl) (ev_var rfl) mb) (ev_var rfl) (rv_eq rfl))) (dec_int _ _)) (fun _ => et_is (et_test (ev_op (ev_call (ea_cons (ev_var rfl) (ea_cons (ev_var rfl) ea_nil)) (show SpV spLAbove ([.ref kd, .int b] ++ []) G (.int (adopter (famL L) b)) from fun H7 e7 Q q E => ⟨kd, L, b, rfl, (U5.mono (e.trans e7)).lk, B, mb, q⟩)) (ev_var rfl) (rv_eq rfl))) (dec_int _ _)))) (fun b _ _ G e => ev_var rfl)) fun sm H6 nsm e6 gsm => ?_
      have o6 := o4.ex (e5.trans e6)
      have S6 := S5.ex (e5.trans e6)
      have psm : sm ≠ p := fun z => by
        obtain ⟨a, b, h, _⟩ := S5.ex e5
        rw [z, h] at nsm
        cases nsm
      have sb : ∀ x ∈ (keys (famL L)).filter (fun k => !decide (k = n) && (decide (ses (famL L) k = k) && decide (adopter (famL L) k = up (famL L) n))), 0 ≤ x ∧ x ≤ 300 := fun x m => kb x (List.mem_filter.mp m).1
      have sl : ((keys (famL L)).filter (fun k => !decide (k = n) && (decide (ses (famL L) k = k) && decide (adopter (famL L) k = up (famL L) n)))).length ≤ 20 := Nat.le_trans (List.length_filter_le _ _) few
      have sd : ∀ x ∈ (keys (famL L)).filter (fun k => !decide (k = n) && (decide (ses (famL L) k = k) && decide (adopter (famL L) k = up (famL L) n))), md = 0 → Drawn0 (famL L) n x := fun x m _ => by
        obtain ⟨m1, m2⟩ := List.mem_filter.mp m
        simp only [Bool.and_eq_true, Bool.not_eq_true', decide_eq_false_iff_not, decide_eq_true_eq] at m2
        exact .inr (.inl ⟨m1, m2.1, m2.2.1, m2.2.2⟩)
      generalize (keys (famL L)).filter (fun k => !decide (k = n) && (decide (ses (famL L) k = k) && decide (adopter (famL L) k = up (famL L) n))) = some' at gsm sb sl sd
      refine (show tTest (tOp (rNeD K) (tVar 10) (tLst tNil)) _ H6 (fun c G => if c = true then tCall spPick [] E0 (tCons (tVar 0) (tCons (tVar 10) tNil)) _ G Q else tVar 7 _ G Q) from et_nenil (ev_var rfl) gsm H6 (Ex.refl H6) _ fun H7 e7 => ?_)
      by_cases z : some' = []
      · rw [decide_eq_true z]
        exact iteF ⟨_, rfl, q it c1 H7 it0 it1 dit (o6.ex e7) (S6.ex e7) c10 (by omega)⟩
      · rw [decide_eq_false z]
        exact iteT ⟨_, rfl, _, rfl, pick (D := { nx := fun _ H' => Q .non H', rt := Q }) rfl (o6.ex e7) (S6.ex e7) psm (e7 _ _ gsm) z (by omega) sb sd⟩
    have o5 := o4.ex e5
    have U5 := U4.mono e5
    have S6 := S5.ex e5
    refine q_when (et_and (et_test (ev_op (ev_var rfl) ev_c (rv_eq rfl))) (fun _ => et_test (ev_op (ev_var rfl) ev_c rv_I0))) (fun _ H6 e6 => ?_) (fun _ H6 e6 => ?_)
    · have o6 := o5.ex e6
      have S7 := S6.ex e6
      refine ⟨_, rfl, by show 2 ≤ sizeLine; decide, fun l2 n2 => ?_⟩
      have p2 : l2 ≠ p := fun z => by
        obtain ⟨a, b, h, _⟩ := S7
        rw [z, h] at n2
        cases n2
      refine ⟨p, l2, c1, [.int 30, .int 31], rfl, S7.ex (Ex.new n2), by omega, p2, upd_same, by decide, by decide, fun v c' zs mv c0 c2 S' => ?_⟩
      obtain ⟨lo, rfl, lo0, lo1, lo2⟩ : ∃ lo : Int, v = .int lo ∧ 0 ≤ lo ∧ lo ≤ 300 ∧ (lo = 30 ∨ lo = 31) := by
        rcases List.mem_cons.mp mv with h | h
        · exact ⟨30, h, by decide, by decide, .inl rfl⟩
        · rcases List.mem_cons.mp h with h | h
          · exact ⟨31, h, by decide, by decide, .inr rfl⟩
          · cases h
      have o7 : Off p H (upd (upd H6 l2 (.lst [.int 30, .int 31])) p (.lst zs)) := fun b u nb h => by rw [upd_ne nb]; exact Ex.new n2 b u (o6 b u nb h)
      have U7 := U.off o7 nk ap
      generalize upd (upd H6 l2 (.lst [.int 30, .int 31])) p (.lst zs) = H7 at S' o7 U7 ⊢
      have cT : ∀ G, Ex H7 G → SpL spLTops ([.ref kd, .int lo] ++ []) G ((tops (famL L) lo).map V.int) := fun G e H8 e8 Q q E => ⟨kd, L, lo, rfl, (U7.mono (e.trans e8)).lk, B, q⟩
      have lc := el_lcGN (K := K) (t := tYes) (te := tOp rEq (tKin K 1 9 0) (tVar 5)) (σ := [some (.ref p), some (.ref kd), some (.ref nm), some (.int n), some (.int md), some (.int (up (famL L) n)), some (.int way), some (.int it), some (.ref lt), none, none, some (.int lo), none]) (H := H7) (j := 9) (vs := [9]) V.int (fun _ => true) (fun k => V.bl (decide (V.int (up (famL L) k) = V.int (up (famL L) n)))) (el_call (E := E0) (ea_cons (ev_var (i := 1) rfl) (ea_cons (ev_var (i := 11) rfl) ea_nil)) (cT H7 (Ex.refl H7))) (by have := tops_len W lo; omega) (fun x => rfl) (fun _ _ _ _ => et_yes) (fun b mb _ G e => ev_op (lk_up B (U7.mono e).lk (ev_var rfl) (ev_var rfl) (mem_tops.mp mb).1) (ev_var rfl) (rv_eq rfl))
      have e8 : ((tops (famL L) lo).filter fun _ => true).map (fun k => V.bl (decide (V.int (up (famL L) k) = V.int (up (famL L) n)))) = ((tops (famL L) lo).map fun k => decide (V.int (up (famL L) k) = V.int (up (famL L) n))).map V.bl := by rw [Evl.filter_all, List.map_map]; rfl
      rw [e8] at lc
      have al : Ev (tCB (rAll K) (tCons (tLc (iList K (tCall spLTops [] E0 (tCons (tVar 1) (tCons (tVar 11) tNil)))) (gName 9) tYes (tOp rEq (tKin K 1 9 0) (tVar 5)) [9]) tNil)) [some (.ref p), some (.ref kd), some (.ref nm), some (.int n), some (.int md), some (.int (up (famL L) n)), some (.int way), some (.int it), some (.ref lt), none, none, some (.int lo), none] H7 (.bl (((tops (famL L) lo).map fun k => decide (V.int (up (famL L) k) = V.int (up (famL L) n))).all id)) := ev_all lc
      have fine : ∃ b : Bool, (b = true → ado (famL L) (up (famL L) n) = true ∧ ∀ k ∈ tops (famL L) lo, up (famL L) k = up (famL L) n) ∧ Ev (tAndV (tOrV (tOp rEq (tVar 5) (tC (.int 1))) (tKin K 1 5 3)) (tCB (rAll K) (tCons (tLc (iList K (tCall spLTops [] E0 (tCons (tVar 1) (tCons (tVar 11) tNil)))) (gName 9) tYes (tOp rEq (tKin K 1 9 0) (tVar 5)) [9]) tNil))) [some (.ref p), some (.ref kd), some (.ref nm), some (.int n), some (.int md), some (.int (up (famL L) n)), some (.int way), some (.int it), some (.ref lt), none, none, some (.int lo), none] H7 (.bl b) :=
        ⟨_, fun hb => by
          rw [Bool.and_eq_true, Bool.or_eq_true] at hb
          refine ⟨?_, fun k mk => ?_⟩
          · rcases hb.1 with h | h
            · rw [dec_int] at h
              rw [of_decide_eq_true h]
              exact ado1 W
            · exact h
          · have h := List.all_eq_true.mp hb.2 _ (List.mem_map_of_mem mk)
            have h2 : decide (V.int (up (famL L) k) = V.int (up (famL L) n)) = true := h
            rw [dec_int] at h2
            exact of_decide_eq_true h2, ev_andV (ev_orV (ev_op (ev_var rfl) ev_c (rv_eq rfl)) (fun h => lk_ado B U7.lk (ev_var rfl) (ev_var rfl) (mu.resolve_left (by rw [dec_int] at h; exact of_decide_eq_false h)))) (fun _ => al)⟩
      obtain ⟨fb, dfb, hfine⟩ := fine
      refine q_asg hfine fun H8 e8 => ?_
      have tst : ∃ b, (b = true → md = 0 → fb = true) ∧ EvT (tOr (tB (tVar 12)) (tTest (tOp rEq (tVar 4) (tC (.int 1))))) [some (.ref p), some (.ref kd), some (.ref nm), some (.int n), some (.int md), some (.int (up (famL L) n)), some (.int way), some (.int it), some (.ref lt), none, none, some (.int lo), some (.bl fb)] H8 b := ⟨_, fun hb h0 => by
          rw [Bool.or_eq_true] at hb
          rcases hb with h | h
          · exact h
          · rw [dec_int, h0] at h
            exact absurd (of_decide_eq_true h) (by decide), et_or (et_B (ev_var rfl)) (fun _ => et_test (ev_op (ev_var rfl) ev_c (rv_eq rfl)))⟩
      obtain ⟨tb, dtb, htb⟩ := tst
      refine (show tOr (tB (tVar 12)) (tTest (tOp rEq (tVar 4) (tC (.int 1)))) _ H8 (fun c G => if c = true then tVar 11 _ G Q else tVar 7 _ G Q) from htb H8 (Ex.refl H8) _ fun H9 e9 => ?_)
      cases tb with
      | true => exact iteT ⟨_, rfl, q lo c' H9 lo0 lo1 (fun h0 => .inr (.inr (.inr ⟨lo2, dfb (dtb rfl h0)⟩))) (o7.ex (e8.trans e9)) (S'.ex (e8.trans e9)) (by omega) (by omega)⟩
      | false => exact iteF ⟨_, rfl, q it c' H9 it0 it1 dit (o7.ex (e8.trans e9)) (S'.ex (e8.trans e9)) (by omega) (by omega)⟩
    have o6 := o5.ex e6
    have S7 := S6.ex e6
    refine q_when (et_and (et_test (ev_op (ev_var rfl) ev_c (rv_eq rfl))) (fun _ => et_test (ev_op (ev_var rfl) ev_c (rv_eq rfl)))) (fun hm1 H7 e7 => ?_) (fun _ H7 e7 => ?_)
    · have nm0 : md ≠ 0 := fun h0 => by
        rw [Bool.and_eq_true, dec_int, dec_int, h0] at hm1
        exact absurd (of_decide_eq_true hm1.2) (by decide)
      have gn7 : H7 nm = some (.lst (ns.map V.int)) := o6.ex e7 _ _ nmp gnm
      have cat := el_catV (σ := [some (.ref p), some (.ref kd), some (.ref nm), some (.int n), some (.int md), some (.int (up (famL L) n)), some (.int way), some (.int it), some (.ref lt), none, none, none, none]) (ev_var (i := 2) rfl) gn7 (el_lst (ta := tCons (tC (.int 1)) (tCons (tC (.int 30)) tNil)) (ea_cons ev_c (ea_cons ev_c ea_nil)) (by show 2 ≤ 100000; omega)) (by rw [List.length_map]; show ns.length + 2 ≤ 100000; omega)
      refine ⟨_, rfl, cat H7 (Ex.refl H7) _ fun l8 H8 n8 e8 g8 => ?_⟩
      have p8 : l8 ≠ p := fun z => by
        obtain ⟨a, b, h, _⟩ := S7.ex e7
        rw [z, h] at n8
        cases n8
      have g8' : H8 l8 = some (.lst ((ns ++ [1, 30]).map V.int)) := by rw [g8, List.map_append]; rfl
      refine pick (D := { nx := fun _ H' => Q .non H', rt := Q }) rfl (o6.ex (e7.trans e8)) (S7.ex (e7.trans e8)) p8 g8' (by simp) (by rw [List.length_append]; show ns.length + 2 ≤ 100; omega) (fun x mx => ?_) (fun _ _ h0 => absurd h0 nm0)
      rcases List.mem_append.mp mx with h | h
      · exact bns x h
      · rcases List.mem_cons.mp h with h | h
        · rw [h]; decide
        · rw [List.mem_singleton.mp h]; decide
    have o7 := o6.ex e7
    have S8 := S7.ex e7
    have glt7 := e7 _ _ (e6 _ _ (e5 _ _ (e4 _ _ glt)))
    have tst : EvT (tAnd (tTest (tOp rEq (tVar 4) (tC (.int 2)))) (tTest (tOp (rNeD K) (tVar 8) (tLst tNil)))) [some (.ref p), some (.ref kd), some (.ref nm), some (.int n), some (.int md), some (.int (up (famL L) n)), some (.int way), some (.int it), some (.ref lt), none, none, none, none] H7 (decide (V.int md = V.int 2) && !decide (later = [])) := et_and (et_test (ev_op (ev_var rfl) ev_c (rv_eq rfl))) (fun _ => et_nenil (ev_var rfl) glt7)
    refine (show tAnd (tTest (tOp rEq (tVar 4) (tC (.int 2)))) (tTest (tOp (rNeD K) (tVar 8) (tLst tNil))) _ H7 (fun c G => if c = true then tCall spPick [] E0 (tCons (tVar 0) (tCons (tVar 8) tNil)) _ G Q else tVar 7 _ G Q) from tst H7 (Ex.refl H7) _ fun H8 e8 => ?_)
    cases hb : (decide (V.int md = V.int 2) && !decide (later = [])) with
    | true =>
      rw [Bool.and_eq_true] at hb
      have z : later ≠ [] := by simpa using hb.2
      exact iteT ⟨_, rfl, _, rfl, pick (D := { nx := fun _ H' => Q .non H', rt := Q }) rfl (o7.ex e8) (S8.ex e8) plt (e8 _ _ glt7) z (by omega) ltb (fun _ _ h0 => by
        rw [dec_int, h0] at hb
        exact absurd (of_decide_eq_true hb.1) (by decide))⟩
    | false => exact iteF ⟨_, rfl, q it c1 H8 it0 it1 dit (o7.ex e8) (S8.ex e8) c10 (by omega)⟩
end
end KB
set_option Elab.async false
set_option linter.all false
set_option maxRecDepth 100000
set_option maxHeartbeats 4000000
namespace KB
open PySem PySem.Spec PyProof.Rows L2 Evl
abbrev sGroup : Stmt := topS 38
abbrev nGroup : List Str := ["_law_box_here", "_law_kin", "_law_n", "_law_mode", "_law_session_here", "_law_way", "_law_k"]
theorem scGroup : FnScope nGroup ["_law_box_here", "_law_kin", "_law_n", "_law_mode"] (defScope sGroup) := ⟨rfl, rfl, rfl, by decide +kernel, rfl, by decide +kernel, by decide +kernel⟩
/-- a group that is drawn so that the family can be built -/
def DrawnG (M : Fam) (n g : Int) : Prop := (ses M n = n → g = n) ∧ (g = ses M n ∨ (g ∈ keys M ∧ ses M g = ses M n) ∨ (g = 60 + ses M n ∧ ses M n < 100) ∨ (g = 98 ∧ 100 ≤ ses M n))
def spGroup : Sp := fun vs H Q _ => ∃ (p kd : Addr) (c n md : Int) (L : List Ent), vs = [.ref p, .ref kd, .int n, .int md] ∧ Src H p c ∧ c < 500000 ∧ LkU H kd L ∧ Born (rowsL L) ∧ Apt p L ∧
  n ∈ keys (famL L) ∧ Bd L ∧ ∀ (g c' : Int) (H' : Hp), 0 ≤ g → g ≤ 300 → (md = 0 → DrawnG (famL L) n g) → Off p H H' → Src H' p c' → c ≤ c' → c' ≤ c + 2 → Q (.int g) H'
section
variable {P : Program} {w : World} {K : PySem.W.Frag} {mg : Str → Option Value} {base : Heap} {f fD fP : Addr} {fd dD dP : FuncData}
theorem ok_group (F : Fun K "_law_group" "_law_group" sGroup f fd) (mo : mg "sorted" = none)
    (GD : FnOk P w K mg base CX0 1 fD dD ["_law_box_here", "_law_below"] spTake) (bD : Binds K dD ["_law_box_here", "_law_below"] []) (kD : PySem.W.keepIn K (.ref fD) = true) (mD : mg "_law_take" = some (.ref fD))
    (GP : FnOk P w K mg base CX0 2 fP dP ["_law_box_here", "_law_some"] spPick) (bP : Binds K dP ["_law_box_here", "_law_some"] []) (kP : PySem.W.keepIn K (.ref fP) = true) (mP : mg "_law_pick" = some (.ref fP)) :
    FnOk P w K mg base CX0 3 f fd ["_law_box_here", "_law_kin", "_law_n", "_law_mode"] spGroup := by
  refine F.ok scGroup (fun vs H Q E h => ?_) (fun cdv A outer s H vs Q E hr h => ?_)
  · obtain ⟨p, kd, c, n, md, L, rfl, _⟩ := h
    rfl
  · obtain ⟨p, kd, c, n, md, L, rfl, S, hc, U, B, ap, mn, bd, q⟩ := h
    have hu := hu_of hr
    have W := wfL B
    have h1 : Room 1 _ := hr.mono (by decide)
    refine ⟨_, pss_cons (ps_asg (pe_tup (pa_cons (pe_ix ix_list (pe_dget hu (pv 1) (pv 2) (fun _ _ => rfl)) pe_int (fun _ _ => rfl)) (pa_cons (pe_call GD h1 rfl mD kD bD .nil pass0 (pa_cons (pv 0) (pa_cons pe_int pa_nil))) pa_nil)))
        (pg_tup rfl (pgs_cons (pg_name (i := 4) scGroup.nd rfl (by first | exact .inl rfl | exact .inr rfl)) (pgs_cons (pg_name (i := 5) scGroup.nd rfl (by first | exact .inl rfl | exact .inr rfl)) pgs_nil))))
      (pss_cons (ps_if (PW.pt (pw_or (PW.pt (pw_and (pt_cmpR op_eq (pv 4) (pv 2) (nomark _)) (pw_and1 (PW.pt (pw_or (pt_cmpR op_ne (pv 3) pe_int (nomark _)) (pw_or1 (pt_cmpR op_gt (pv 5) pe_int (nomark _)))))))) (pw_or1 (pt_cmpR op_lt (pv 5) pe_int (nomark _))))) (pss_one (ps_ret (pv 4))) pss_nil)
      (pss_cons (ps_if (pt_cmpR op_lt (pv 5) pe_int (nomark _)) (pss_one (ps_ret (pe_call GP hr rfl mP kP bP .nil pass0 (pa_cons (pv 0) (pa_cons
          (pe_lc (own := [("_law_k", 6)]) (g := gName 6) (tt := tTest (tOp rEq (tKin K 1 6 1) (tVar 4))) (te := tVar 6) rfl scGroup.nd (pi_list (pe_callB (cr_srtD rfl) (by rfl) mo (by decide +kernel) (pa_cons (pv 1) pa_nil))) (blkOk_by (N := nGroup) (sc := defScope sGroup) (by decide +kernel))
            (fun _ _ _ _ _ => pg_name (i := 6) scGroup.nd rfl (Or.inl rfl)) (fun _ _ _ _ _ => pts_one (pt_cmpR op_eq (pe_ix ix_list (pe_dget hu (pv 1) (pv 6) (fun _ _ => rfl)) pe_int (fun _ _ => rfl)) (pv 4) (nomark _))) (fun _ _ _ _ _ => pv 6)) pa_nil))))) pss_nil)
      (pss_cons (ps_if (pt_cmpR op_lt (pv 5) pe_int (nomark _)) (pss_one (ps_ret (pe_ifExp (pt_cmpR op_lt (pv 4) pe_int (nomark _)) (pe_op op_add pe_int (pv 4)) pe_int))) pss_nil)
      (pss_one (ps_ret (pe_ifExp (pt_cmpR op_eq (pv 3) pe_int (nomark _)) (pe_call GP hr rfl mP kP bP .nil pass0 (pa_cons (pv 0) (pa_cons (pe_op op_cat (pe_callB (cr_srtD rfl) (by rfl) mo (by decide +kernel) (pa_cons (pv 1) pa_nil)) (pe_lst (pa_cons pe_int (pa_cons pe_int (pa_cons pe_int pa_nil))))) pa_nil))) (pv 4))))))), ?_⟩
    have nk := kd_ne S U
    refine lk_ses B U.lk (ev_var rfl) (ev_var rfl) mn H (Ex.refl H) _ fun H1 e1 => ?_
    refine ⟨_, rfl, p, c, 12, rfl, S.ex e1, by omega, by decide, by decide, fun way c1 zs w0 w1 c10 c11 S2 => ⟨by show 2 ≤ sizeLine; decide, fun tt nt => ?_⟩⟩
    have o2 : Off p H (upd (upd H1 p (.lst zs)) tt (.tup [.int (ses (famL L) n), .int way])) := fun b o nb h => Ex.new nt b o (by rw [upd_ne nb]; exact e1 b o h)
    have S3 := S2.ex (Ex.new (o := .tup [.int (ses (famL L) n), .int way]) nt)
    refine ⟨tt, _, rfl, .inl (.inl upd_same), rfl, _, _, rfl, _, _, rfl, rfl, ?_⟩
    generalize upd (upd H1 p (.lst zs)) tt (.tup [.int (ses (famL L) n), .int way]) = H2 at o2 S3 ⊢
    clear S2 nt
    have U2 := U.off o2 nk ap
    have b4 := bd_ses B bd mn
    have sn0 := b4.2.2.1
    have sn1 := b4.2.2.2
    have kb : ∀ x ∈ keys (famL L), 0 ≤ x ∧ x ≤ 300 := fun x m => by have := bd_ses B bd m; exact ⟨by omega, by omega⟩
    have few : (keys (famL L)).length ≤ 20 := by rw [len_keys]; exact W.few
    have pick : ∀ {G : Hp} {l : Addr} {xs : List Int}, Off p H G → Src G p c1 → l ≠ p → G l = some (.lst (xs.map V.int)) → xs ≠ [] → xs.length ≤ 100 → (∀ x ∈ xs, 0 ≤ x ∧ x ≤ 300) → (∀ x ∈ xs, md = 0 → DrawnG (famL L) n x) → spPick [.ref p, .ref l] G Q E0 := fun {G l xs} o S nl g ne hl hb hd => by
      refine ⟨p, l, c1, xs.map V.int, rfl, S, by omega, nl, g, by rw [List.length_map]; exact List.length_pos_iff.mpr ne, by rw [List.length_map]; omega, fun v c' zs mv c0 c2 S' => ?_⟩
      obtain ⟨x, mx, rfl⟩ := List.mem_map.mp mv
      exact q x c' _ (hb x mx).1 (hb x mx).2 (hd x mx) (fun b u nb h => by rw [upd_ne nb]; exact o b u nb h) S' (by omega) (by omega)
    have newp : ∀ {G : Hp} {l : Addr}, Src G p c1 → G l = none → l ≠ p := fun S nl z => by
      obtain ⟨a, b, h, _⟩ := S
      rw [z, h] at nl
      cases nl
    refine q_when (et_or (et_and (et_test (ev_op (ev_var rfl) (ev_var rfl) (rv_eq rfl))) (fun _ => et_or (et_test (ev_op (ev_var rfl) ev_c (rv_ne rfl))) (fun _ => et_test (ev_op (ev_var rfl) ev_c rv_I0)))) (fun _ => et_test (ev_op (ev_var rfl) ev_c rv_I0))) (fun _ H3 e3 => ?_) (fun h3 H3 e3 => ?_)
    · exact s_ret (ev_var rfl) fun H4 e4 => q _ c1 H4 sn0 sn1 (fun _ => ⟨fun h => h, .inl rfl⟩) (o2.ex (e3.trans e4)) (S3.ex (e3.trans e4)) c10 (by omega)
    have ow : md = 0 → ses (famL L) n ≠ n := fun h0 z => by
      rw [Bool.or_eq_false_iff, Bool.and_eq_false_iff, dec_int, dec_int, h0, z] at h3
      rcases h3.1 with h | h
      · exact absurd h (by simp)
      · rw [Bool.or_eq_false_iff] at h
        exact absurd h.1 (by decide)
    have o3 := o2.ex e3
    have U3 := U2.mono e3
    have S4 := S3.ex e3
    refine q_when (et_test (ev_op (ev_var rfl) ev_c rv_I0)) (fun _ H4 e4 => ?_) (fun _ H4 e4 => ?_)
    · have U4 := U3.mono e4
      have lc := el_lcGN (K := K) (t := tTest (tOp rEq (tKin K 1 6 1) (tVar 4))) (te := tVar 6) (σ := [some (.ref p), some (.ref kd), some (.int n), some (.int md), some (.int (ses (famL L) n)), some (.int way), none]) (H := H4) (j := 6) (vs := [6]) V.int (fun k => decide (ses (famL L) k = ses (famL L) n)) V.int (lk_sorted B U4.lk (ev_var (i := 1) rfl)) (by omega) (fun x => rfl) (fun b mb G e => et_is (et_test (ev_op (lk_ses B (U4.mono e).lk (ev_var rfl) (ev_var rfl) mb) (ev_var rfl) (rv_eq rfl))) (dec_int _ _)) (fun b _ _ G e => ev_var rfl)
      refine ⟨_, rfl, lc H4 (Ex.refl H4) _ fun l H5 nl e5 g5 => ?_⟩
      refine pick (o3.ex (e4.trans e5)) (S4.ex (e4.trans e5)) (newp (S4.ex e4) nl) g5 ?_ (Nat.le_trans (List.length_filter_le _ _) (by omega)) (fun x mx => kb x (List.mem_filter.mp mx).1) (fun x mx h0 => ⟨fun z => absurd z (ow h0), .inr (.inl ⟨(List.mem_filter.mp mx).1, of_decide_eq_true (List.mem_filter.mp mx).2⟩)⟩)
      exact List.ne_nil_of_mem (List.mem_filter.mpr ⟨mn, decide_eq_true rfl⟩)
    have o4 := o3.ex e4
    have U4 := U3.mono e4
    have S5 := S4.ex e4
    refine q_when (et_test (ev_op (ev_var rfl) ev_c rv_I0)) (fun _ H5 e5 => ?_) (fun _ H5 e5 => ?_)
    · have val : ∃ v : Int, 0 ≤ v ∧ v ≤ 300 ∧ (md = 0 → DrawnG (famL L) n v) ∧ Ev (tIf (tTest (tOp (rI0 fun i j => .bl (decide (i < j))) (tVar 4) (tC (.int 100)))) (tOp (rI0 fun i j => .int (i + j)) (tC (.int 60)) (tVar 4)) (tC (.int 98))) [some (.ref p), some (.ref kd), some (.int n), some (.int md), some (.int (ses (famL L) n)), some (.int way), none] H5 (.int v) := by
        by_cases z : ses (famL L) n < 100
        · exact ⟨60 + ses (famL L) n, by omega, by omega, fun h0 => ⟨fun h => absurd h (ow h0), .inr (.inr (.inl ⟨rfl, z⟩))⟩, ev_if (b := true) (et_is (et_test (ev_op (ev_var rfl) ev_c rv_I0)) (decide_eq_true z)) (fun _ => ev_op ev_c (ev_var rfl) rv_I0) (fun h => nomatch h)⟩
        · exact ⟨98, by decide, by decide, fun h0 => ⟨fun h => absurd h (ow h0), .inr (.inr (.inr ⟨rfl, by omega⟩))⟩, ev_if (b := false) (et_is (et_test (ev_op (ev_var rfl) ev_c rv_I0)) (decide_eq_false z)) (fun h => nomatch h) (fun _ => ev_c)⟩
      obtain ⟨v, v0, v1, dv, hv⟩ := val
      exact s_ret hv fun H6 e6 => q v c1 H6 v0 v1 dv (o4.ex (e5.trans e6)) (S5.ex (e5.trans e6)) c10 (by omega)
    have o5 := o4.ex e5
    have U5 := U4.mono e5
    have S6 := S5.ex e5
    have tst : EvT (tTest (tOp rEq (tVar 3) (tC (.int 1)))) [some (.ref p), some (.ref kd), some (.int n), some (.int md), some (.int (ses (famL L) n)), some (.int way), none] H5 (decide (V.int md = V.int 1)) := et_test (ev_op (ev_var rfl) ev_c (rv_eq rfl))
    refine (show tTest (tOp rEq (tVar 3) (tC (.int 1))) _ H5 (fun c G => if c = true then tCall spPick [] E0 (tCons (tVar 0) (tCons (tOp rCat (tCB rSrtD (tCons (tVar 1) tNil)) (tLst (tCons (tC (.int 1)) (tCons (tC (.int 30)) (tCons (tC (.int 62)) tNil))))) tNil)) _ G Q else tVar 4 _ G Q) from tst H5 (Ex.refl H5) _ fun H6 e6 => ?_)
    cases hb : decide (V.int md = V.int 1) with
    | true =>
      have U6 := U5.mono e6
      have cat := el_cat (σ := [some (.ref p), some (.ref kd), some (.int n), some (.int md), some (.int (ses (famL L) n)), some (.int way), none]) (lk_sorted B U6.lk (ev_var (i := 1) rfl)) (el_lst (ta := tCons (tC (.int 1)) (tCons (tC (.int 30)) (tCons (tC (.int 62)) tNil))) (ea_cons ev_c (ea_cons ev_c (ea_cons ev_c ea_nil))) (by show 3 ≤ 100000; omega)) (by rw [List.length_map]; show (keys (famL L)).length + 3 ≤ 100000; omega)
      refine iteT ⟨_, rfl, cat H6 (Ex.refl H6) _ fun l8 H8 n8 e8 g8 => ?_⟩
      have g8' : H8 l8 = some (.lst ((keys (famL L) ++ [1, 30, 62]).map V.int)) := by rw [g8, List.map_append]; rfl
      refine pick (o5.ex (e6.trans e8)) (S6.ex (e6.trans e8)) (newp (S6.ex e6) n8) g8' (by simp) (by rw [List.length_append]; show (keys (famL L)).length + 3 ≤ 100; omega) (fun x mx => ?_) (fun _ _ h0 => by
        rw [dec_int, h0] at hb
        exact absurd (of_decide_eq_true hb) (by decide))
      rcases List.mem_append.mp mx with h | h
      · exact kb x h
      · rcases List.mem_cons.mp h with h | h
        · rw [h]; decide
        · rcases List.mem_cons.mp h with h | h
          · rw [h]; decide
          · rw [List.mem_singleton.mp h]; decide
    | false => exact iteF ⟨_, rfl, q _ c1 H6 sn0 sn1 (fun h0 => ⟨fun z => absurd z (ow h0), .inl rfl⟩) (o5.ex e6) (S6.ex e6) c10 (by omega)⟩
end
end KB
set_option Elab.async false
set_option linter.all false
set_option maxRecDepth 100000
set_option maxHeartbeats 4000000
namespace L2
open PySem PySem.Spec PyProof.Rows
section
variable {X : Cx}
/-- d == {}, d != {} -/
def rEqNil : R2 := fun x y H Q => ∃ a b ks, x = .ref a ∧ y = .ref b ∧ H a = some (.dK ks) ∧ H b = some (.dK []) ∧ Q (.bl ks.isEmpty) H
def rNeNil : R2 := fun x y H Q => ∃ a b ks, x = .ref a ∧ y = .ref b ∧ H a = some (.dK ks) ∧ H b = some (.dK []) ∧ Q (.bl (!ks.isEmpty)) H
theorem op_eqNil (hu : X.A.units < cLine) : OpR X (compareOp .Eq) rEqNil := by
  intro pins s σ H x y v u Q I rx ry h
  obtain ⟨a, b, ks, rfl, rfl, ea, eb, q⟩ := h
  obtain rfl : v = Value.ref a := rx
  obtain rfl : u = Value.ref b := ry
  obtain ⟨_, ya, va, ra, da⟩ := (show ObjOk X.prog X.w H s.heap a (.dK ks) from I.hok a _ ea)
  obtain ⟨_, yb, vb, rb, db⟩ := (show ObjOk X.prog X.w H s.heap b (.dK []) from I.hok b _ eb)
  have la : ks.length = va.length := Paired.length ra
  have lb : vb.length = 0 := (Paired.length rb).symm
  refine PySem.W.keq_eq (knd := mixKind X.prog X.w) (r := true) ya yb da db hu (fun e => ?_) (fin_bl I q ?_)
  · have : va = [] := List.length_eq_zero_iff.mp (by omega)
    subst this
    exact .nil
  · rw [lb, ← la]
    cases ks <;> simp
theorem op_neNil (hu : X.A.units < cLine) : OpR X (compareOp .NotEq) rNeNil := by
  intro pins s σ H x y v u Q I rx ry h
  obtain ⟨a, b, ks, rfl, rfl, ea, eb, q⟩ := h
  obtain rfl : v = Value.ref a := rx
  obtain rfl : u = Value.ref b := ry
  obtain ⟨_, ya, va, ra, da⟩ := (show ObjOk X.prog X.w H s.heap a (.dK ks) from I.hok a _ ea)
  obtain ⟨_, yb, vb, rb, db⟩ := (show ObjOk X.prog X.w H s.heap b (.dK []) from I.hok b _ eb)
  have la : ks.length = va.length := Paired.length ra
  have lb : vb.length = 0 := (Paired.length rb).symm
  refine PySem.W.keq_ne (knd := mixKind X.prog X.w) (r := true) ya yb da db hu (fun e => ?_) (fin_bl I q ?_)
  · have : va = [] := List.length_eq_zero_iff.mp (by omega)
    subst this
    exact .nil
  · rw [lb, ← la]
    cases ks <;> simp
end
end L2
namespace KB
open PySem PySem.Spec PyProof.Rows L2 Evl
/-! ### one row changed, one row more -/
theorem Born.congr {l l' : List Rw} (h : l.map (fun r => (r.n, r.up)) = l'.map (fun r => (r.n, r.up))) (B : Born l) : Born l' := by
  have hn : l'.map (·.n) = l.map (·.n) := by
    have := congrArg (List.map Prod.fst) h
    rw [List.map_map, List.map_map] at this
    exact this.symm
  have len : l'.length = l.length := by
    have := congrArg List.length h
    rw [List.length_map, List.length_map] at this
    exact this.symm
  have at_ : ∀ {i : Nat} {r : Rw}, l'[i]? = some r → ∃ q, l[i]? = some q ∧ q.n = r.n ∧ q.up = r.up := fun {i r} e => by
    have e1 : (l'.map (fun r => (r.n, r.up)))[i]? = some (r.n, r.up) := by rw [List.getElem?_map, e]; rfl
    rw [← h, List.getElem?_map] at e1
    obtain ⟨q, e2, e3⟩ := Option.map_eq_some_iff.mp e1
    exact ⟨q, e2, (Prod.mk.inj e3).1, (Prod.mk.inj e3).2⟩
  have at' : ∀ {i : Nat} {r : Rw}, l[i]? = some r → ∃ q, l'[i]? = some q ∧ q.n = r.n ∧ q.up = r.up := fun {i r} e => by
    have e1 : (l.map (fun r => (r.n, r.up)))[i]? = some (r.n, r.up) := by rw [List.getElem?_map, e]; rfl
    rw [h, List.getElem?_map] at e1
    obtain ⟨q, e2, e3⟩ := Option.map_eq_some_iff.mp e1
    exact ⟨q, e2, (Prod.mk.inj e3).1, (Prod.mk.inj e3).2⟩
  refine ⟨by rw [hn]; exact B.nd, fun r m => ?_, fun i r e => ?_, fun z => ?_, by rw [len]; exact B.few⟩
  · obtain ⟨i, e⟩ := List.mem_iff_getElem?.mp m
    obtain ⟨q, e1, e2, _⟩ := at_ e
    rw [← e2]
    exact B.low q (List.mem_of_getElem? e1)
  · obtain ⟨q, e1, e2, e3⟩ := at_ e
    have p := B.par i q e1
    rw [e3] at p
    refine ⟨p.1, fun z => ?_⟩
    obtain ⟨j, q', hj, eq', en⟩ := p.2 z
    obtain ⟨q2, f1, f2, _⟩ := at' eq'
    exact ⟨j, q2, hj, f1, by rw [f2, en]⟩
  · rw [z] at len
    exact B.ne (List.length_eq_zero_iff.mp len.symm)
def setL (L : List Ent) (r : Rw) : List Ent := L.map fun e => if e.1.n = r.n then (r, e.2) else e
theorem set_nums (L : List Ent) (r : Rw) : numsL (setL L r) = numsL L := by
  unfold numsL setL
  rw [List.map_map]
  refine List.map_congr_left fun e _ => ?_
  show (if e.1.n = r.n then (r, e.2) else e).1.n = e.1.n
  split
  · rename_i h; exact h.symm
  · rfl
theorem set_adr (L : List Ent) (r : Rw) : (setL L r).map (·.2) = L.map (·.2) := by
  unfold setL
  rw [List.map_map]
  refine List.map_congr_left fun e _ => ?_
  show (if e.1.n = r.n then (r, e.2) else e).2 = e.2
  split <;> rfl
theorem set_tbl (L : List Ent) (r : Rw) : tbl (setL L r) = tbl L := by
  unfold tbl setL
  rw [List.map_map]
  refine List.map_congr_left fun e _ => ?_
  show (Sum.inl (if e.1.n = r.n then (r, e.2) else e).1.n, V.ref (if e.1.n = r.n then (r, e.2) else e).2) = _
  split
  · rename_i h; rw [h]
  · rfl
theorem set_born {L : List Ent} {r : Rw} (B : Born (rowsL L)) (h : ∀ e ∈ L, e.1.n = r.n → e.1.up = r.up) : Born (rowsL (setL L r)) := by
  refine B.congr ?_
  unfold rowsL setL
  rw [List.map_map, List.map_map, List.map_map]
  refine List.map_congr_left fun e m => ?_
  show (e.1.n, e.1.up) = ((if e.1.n = r.n then (r, e.2) else e).1.n, (if e.1.n = r.n then (r, e.2) else e).1.up)
  split
  · rename_i z; rw [z, h e m z]
  · rfl
theorem set_bd {L : List Ent} {r : Rw} (b : Bd L) (h : r.n ≤ 199 ∧ 0 ≤ r.s ∧ r.s ≤ 300 ∧ 0 ≤ r.g ∧ r.g ≤ 300) : Bd (setL L r) := fun e m => by
  obtain ⟨x, mx, rfl⟩ := List.mem_map.mp m
  split
  · exact h
  · exact b x mx
theorem set_apt {L : List Ent} {r : Rw} {p : Addr} (a : Apt p L) : Apt p (setL L r) := fun e m => by
  obtain ⟨x, mx, rfl⟩ := List.mem_map.mp m
  split
  · exact a x mx
  · exact a x mx
def AdN (L : List Ent) : Prop := (L.map (·.2)).Nodup
theorem adr_inj {L : List Ent} (nd : AdN L) : ∀ {e e' : Ent}, e ∈ L → e' ∈ L → e.2 = e'.2 → e = e' := by
  unfold AdN at nd
  induction L with
  | nil => exact fun h => nomatch h
  | cons x L ih =>
    rw [List.map_cons, List.nodup_cons] at nd
    intro e e' h h' eq
    rcases List.mem_cons.mp h with a | a
    · rcases List.mem_cons.mp h' with b | b
      · rw [a, b]
      · exact absurd (by rw [← a, eq]; exact List.mem_map_of_mem (f := fun e : Ent => e.2) b) nd.1
    · rcases List.mem_cons.mp h' with b | b
      · exact absurd (by rw [← b, ← eq]; exact List.mem_map_of_mem (f := fun e : Ent => e.2) a) nd.1
      · exact ih nd.2 a b eq
theorem LkU.set {H : Hp} {kd : Addr} {L : List Ent} {e : Ent} {r : Rw} (U : LkU H kd L) (B : Born (rowsL L)) (nd : AdN L) (m : e ∈ L) (hn : r.n = e.1.n) : LkU (upd H e.2 (.lst (row5 r))) kd (setL L r) := by
  have ne : kd ≠ e.2 := fun z => by
    have := U.rows e m
    rw [← z, U.top] at this
    cases this
  refine ⟨by rw [upd_ne ne, set_tbl]; exact U.top, fun x mx => ?_⟩
  obtain ⟨y, my, rfl⟩ := List.mem_map.mp mx
  by_cases z : y.1.n = r.n
  · rw [if_pos z]
    have ey : y = e := by
      have i1 := val_tbl B my
      have i2 := val_tbl B m
      rw [z, hn, i2] at i1
      exact adr_inj nd my m (by injection (Option.some.inj i1) with h; exact h.symm)
    rw [ey]
    exact upd_same
  · rw [if_neg z]
    have ny : y.2 ≠ e.2 := fun w => z (by rw [adr_inj nd my m w, hn])
    rw [upd_ne ny]
    exact U.rows y my
theorem add_born {L : List Ent} {r : Rw} {a : Addr} (B : Born (rowsL L)) (nr : r.n ∉ numsL L) (low : 2 ≤ r.n) (hup : r.up ∈ numsL L) (few : L.length < 20) : Born (rowsL (L ++ [(r, a)])) := by
  have er : rowsL (L ++ [(r, a)]) = rowsL L ++ [r] := by unfold rowsL; rw [List.map_append]; rfl
  have ln : (rowsL L).length = L.length := List.length_map _
  have nums : (rowsL L).map (·.n) = numsL L := by unfold rowsL numsL; rw [List.map_map]; rfl
  rw [er]
  have lw : ∀ q ∈ rowsL L ++ [r], 2 ≤ q.n := fun q m => by
    rcases List.mem_append.mp m with m | m
    · exact B.low q m
    · rw [List.mem_singleton.mp m]; exact low
  refine ⟨?_, lw, fun i q e => ?_, by simp, by rw [List.length_append, ln]; show L.length + 1 ≤ 20; omega⟩
  · rw [List.map_append, nums]
    refine List.nodup_append.mpr ⟨by rw [← nums]; exact B.nd, by simp, fun b mb b' mb' z => nr ?_⟩
    have : b' = r.n := by simpa using mb'
    rw [← this, ← z]
    exact mb
  · rw [List.getElem?_append] at e
    by_cases hi : i < (rowsL L).length
    · rw [if_pos hi] at e
      have p := B.par i q e
      refine ⟨p.1, fun z => ?_⟩
      obtain ⟨j, q', hj, eq', en⟩ := p.2 z
      exact ⟨j, q', hj, by rw [List.getElem?_append, if_pos (by omega)]; exact eq', en⟩
    · rw [if_neg hi] at e
      have hi0 : i - (rowsL L).length = 0 := by
        cases hz : i - (rowsL L).length with
        | zero => rfl
        | succ k => rw [hz] at e; simp at e
      rw [hi0] at e
      obtain rfl : r = q := by simpa using e
      have ie : i = (rowsL L).length := by omega
      have ne0 : (rowsL L).length ≠ 0 := fun z => B.ne (List.length_eq_zero_iff.mp z)
      obtain ⟨x, mx, ex⟩ := List.mem_map.mp hup
      have mr : x.1 ∈ rowsL L := List.mem_map_of_mem (f := fun e : Ent => e.1) mx
      have l2 := B.low x.1 mr
      refine ⟨⟨fun z => by omega, fun z => by omega⟩, fun _ => ?_⟩
      obtain ⟨j, ej⟩ := List.mem_iff_getElem?.mp mr
      have hj := (List.getElem?_eq_some_iff.mp ej).1
      exact ⟨j, x.1, by omega, by rw [List.getElem?_append, if_pos hj]; exact ej, ex⟩
theorem one_born {r : Rw} {a : Addr} (low : 2 ≤ r.n) (hup : r.up = 1) : Born (rowsL [(r, a)]) := by
  refine ⟨by simp [rowsL], fun q m => ?_, fun i q e => ?_, by simp [rowsL], by simp [rowsL]⟩
  · rw [show q = r by simpa [rowsL] using m]; exact low
  · cases i with
    | zero =>
      obtain rfl : r = q := by simpa [rowsL] using e
      exact ⟨⟨fun _ => rfl, fun _ => hup⟩, fun z => absurd rfl z⟩
    | succ i => simp [rowsL] at e
theorem LkU.add {H : Hp} {kd a : Addr} {L : List Ent} {r : Rw} (U : LkU H kd L) (nr : r.n ∉ numsL L) (ga : H a = some (.lst (row5 r))) : LkU (upd H kd (.dK (putK (tbl L) (Sum.inl r.n) (.ref a)))) kd (L ++ [(r, a)]) := by
  have no : valV (tbl L) (Sum.inl r.n) = none := val_no (fun e : Ent => e.1.n) (fun e => V.ref e.2) r.n L nr
  refine ⟨by rw [upd_same, putK_new _ no]; unfold tbl; rw [List.map_append]; rfl, fun e m => ?_⟩
  have ne : ∀ {b : Addr} {xs : List V}, H b = some (.lst xs) → b ≠ kd := fun h z => by rw [z, U.top] at h; cases h
  rcases List.mem_append.mp m with m | m
  · rw [upd_ne (ne (U.rows e m))]
    exact U.rows e m
  · rw [List.mem_singleton.mp m]
    rw [upd_ne (ne ga)]
    exact ga
end KB
set_option Elab.async false
set_option linter.all false
set_option maxRecDepth 100000
set_option maxHeartbeats 4000000
namespace KB
open PySem PySem.Spec PyProof.Rows L2 Evl
/-! ### families that are drawn so that they can be built have no reason -/
theorem adopter_congr {M M' : Fam} (W : WF M) (W' : WF M') (hk : ∀ m ∈ keys M, m ∈ keys M') (hu : ∀ m ∈ keys M, up M' m = up M m) (ha : ∀ m ∈ keys M, ado M' (up M m) = ado M (up M m)) : ∀ n ∈ keys M, adopter M' n = adopter M n := by
  refine up_ind W (fun n m z => ?_) (fun n m z ih => ?_)
  · rw [adopter_eq W m, adopter_eq W' (hk n m), hu n m, if_pos (.inl z), if_pos (.inl z)]
  · rw [adopter_eq W m, adopter_eq W' (hk n m), hu n m, ha n m, ih]
/-- what the sessions of such a family are; l: the numbers in the order of their births -/
structure Sess (M : Fam) (l : List Int) : Prop where
  pl : ∀ n ∈ l, 2 ≤ n ∧ (n ≤ 20 ∨ n = 199)
  kind : ∀ n ∈ l, ses M n = 1 ∨ ses M n = 30 ∨ ses M n = 31 ∨ (ses M n ∈ l ∧ ses M (ses M n) = ses M n)
  led : ∀ n ∈ l, ses M n ∈ l → ses M n ≠ n → topB M (ses M n) n = true → up M n = adopter M (ses M n)
  one : ∀ n ∈ l, topB M 1 n = true → up M n = 1
  lost1 : ∀ n ∈ l, ∀ s, s = 30 ∨ s = 31 → topB M s n = true → ado M (up M n) = true
  lost2 : ∀ n ∈ l, ∀ m ∈ l, ∀ s, s = 30 ∨ s = 31 → topB M s n = true → topB M s m = true → up M n = up M m
  early : ∀ (i j : Nat) (n : Int), l[i]? = some n → l[j]? = some (ses M n) → j ≤ i
theorem Sess.nil {M : Fam} : Sess M [] := ⟨fun _ m => (nomatch m), fun _ m => (nomatch m), fun _ m => (nomatch m), fun _ m => (nomatch m), fun _ m => (nomatch m), fun _ m => (nomatch m), fun i j n h => by simp at h⟩
def Gr (M : Fam) (l : List Int) : Prop := ∀ n ∈ l, DrawnG M n (grp M n)
theorem Sess.congr {M M' : Fam} {l : List Int} (W : WF M) (W' : WF M') (hl : ∀ n, n ∈ l ↔ n ∈ keys M) (hk : keys M' = keys M) (hu : up M' = up M) (hs : ses M' = ses M) (ha : ∀ m ∈ keys M, ado M' (up M m) = ado M (up M m)) (S : Sess M l) : Sess M' l := by
  have ht : topB M' = topB M := by
    funext s n
    unfold topB
    rw [hu, hs]
  have had := adopter_congr W W' (fun m h => by rw [hk]; exact h) (fun m _ => by rw [hu]) ha
  refine ⟨S.pl, ?_, ?_, ?_, ?_, ?_, ?_⟩
  · rw [hs]; exact S.kind
  · rw [hs, ht, hu]
    exact fun n mn ms ne h => (S.led n mn ms ne h).trans (had _ ((hl _).mp ms)).symm
  · rw [ht, hu]; exact S.one
  · rw [ht, hu]
    exact fun n mn s h h' => (ha n ((hl n).mp mn)).trans (S.lost1 n mn s h h')
  · rw [ht, hu]; exact S.lost2
  · rw [hs]; exact S.early
section
variable {L : List Ent} {r : Rw}
theorem set_look (B : Born (rowsL L)) (B' : Born (rowsL (setL L r))) (m : Int) : look (famL (setL L r)) m = (look (famL L) m).map fun q => if q.n = r.n then r else q := by
  by_cases h : m ∈ keys (famL L)
  · obtain ⟨e, me, rfl⟩ := in_keys B h
    rw [look_of (wfL B).asc (row_in B me)]
    have me' : (if e.1.n = r.n then (r, e.2) else e) ∈ setL L r := List.mem_map_of_mem (f := fun e : Ent => if e.1.n = r.n then (r, e.2) else e) me
    show _ = some (if e.1.n = r.n then r else e.1)
    by_cases z : e.1.n = r.n
    · rw [if_pos z] at me' ⊢
      rw [z]
      exact look_of (wfL B').asc (row_in B' me')
    · rw [if_neg z] at me' ⊢
      exact look_of (wfL B').asc (row_in B' me')
  · have h' : m ∉ keys (famL (setL L r)) := fun z => h ((num_iff B).mp (by rw [← set_nums L r]; exact (num_iff B').mpr z))
    rw [look_none h, look_none h']
    rfl
theorem set_f {α : Type} {f : Rw → α} {d : α} (B : Born (rowsL L)) (B' : Born (rowsL (setL L r))) (h : ∀ e ∈ L, e.1.n = r.n → f e.1 = f r) (m : Int) : ((look (famL (setL L r)) m).map f).getD d = ((look (famL L) m).map f).getD d := by
  rw [set_look B B']
  cases hl : look (famL L) m with
  | none => rfl
  | some q =>
    show f (if q.n = r.n then r else q) = f q
    split
    · rename_i z
      obtain ⟨mq, _⟩ := look_mem hl
      obtain ⟨e, me, rfl⟩ := List.mem_map.mp ((mem_srtR B.nd).mp mq)
      exact (h e me z).symm
    · rfl
theorem set_keys (B : Born (rowsL L)) (B' : Born (rowsL (setL L r))) : keys (famL (setL L r)) = keys (famL L) := by
  unfold famL
  rw [keys_srt, keys_srt]
  have e : ∀ L : List Ent, (rowsL L).map (·.n) = numsL L := fun L => by unfold rowsL numsL; rw [List.map_map]; rfl
  rw [e, e, set_nums]
theorem Sess.set (B : Born (rowsL L)) (B' : Born (rowsL (setL L r))) {l : List Int} (hl : ∀ n, n ∈ l ↔ n ∈ keys (famL L)) (h : ∀ e ∈ L, e.1.n = r.n → e.1.up = r.up ∧ e.1.s = r.s ∧ (e.1.ad = r.ad ∨ ∀ m ∈ keys (famL L), up (famL L) m ≠ r.n)) (S : Sess (famL L) l) : Sess (famL (setL L r)) l := by
  refine S.congr (wfL B) (wfL B') hl (set_keys B B') (funext fun m => set_f B B' (fun e me z => (h e me z).1) m) (funext fun m => set_f B B' (fun e me z => (h e me z).2.1) m) fun m mm => ?_
  show ((look (famL (setL L r)) _).map (·.ad)).getD true = ((look (famL L) _).map (·.ad)).getD true
  rw [set_look B B']
  cases hl : look (famL L) (up (famL L) m) with
  | none => rfl
  | some q =>
    show (if q.n = r.n then r else q).ad = q.ad
    split
    · rename_i z
      obtain ⟨mq, eq⟩ := look_mem hl
      obtain ⟨e, me, rfl⟩ := List.mem_map.mp ((mem_srtR B.nd).mp mq)
      rcases (h e me z).2.2 with w | w
      · exact w.symm
      · exact absurd (eq.symm.trans z) (w m mm)
    · rfl
theorem Gr.set (B : Born (rowsL L)) (B' : Born (rowsL (setL L r))) {l : List Int} (h : ∀ e ∈ L, e.1.n = r.n → e.1.s = r.s ∧ e.1.g = r.g) (G : Gr (famL L) l) : Gr (famL (setL L r)) l := fun n mn => by
  have hs : ses (famL (setL L r)) = ses (famL L) := funext fun m => set_f B B' (fun e me z => (h e me z).1) m
  have hg : grp (famL (setL L r)) = grp (famL L) := funext fun m => set_f B B' (fun e me z => (h e me z).2) m
  have hk := set_keys B B'
  have := G n mn
  unfold DrawnG at this ⊢
  rw [hs, hg, hk]
  exact this
theorem Gr.step (B : Born (rowsL L)) (B' : Born (rowsL (setL L r))) {l : List Int} (h : ∀ e ∈ L, e.1.n = r.n → e.1.s = r.s) (hr : r.n ∈ keys (famL L)) (nl : r.n ∉ l) (D : DrawnG (famL L) r.n r.g) (G : Gr (famL L) l) : Gr (famL (setL L r)) (l ++ [r.n]) := fun n mn => by
  have hs : ses (famL (setL L r)) = ses (famL L) := funext fun m => set_f B B' (fun e me z => h e me z) m
  have hk := set_keys B B'
  rcases List.mem_append.mp mn with mn | mn
  · have hg : grp (famL (setL L r)) n = grp (famL L) n := by
      show ((look (famL (setL L r)) _).map (·.g)).getD 1 = ((look (famL L) _).map (·.g)).getD 1
      rw [set_look B B']
      cases hl : look (famL L) n with
      | none => rfl
      | some q =>
        show (if q.n = r.n then r else q).g = q.g
        rw [if_neg fun z => nl (by rw [← z, (look_mem hl).2]; exact mn)]
    have := G n mn
    unfold DrawnG at this ⊢
    rw [hs, hg, hk]
    exact this
  · rw [List.mem_singleton.mp mn]
    have hg : grp (famL (setL L r)) r.n = r.g := by
      show ((look (famL (setL L r)) _).map (·.g)).getD 1 = _
      rw [set_look B B']
      obtain ⟨q, hq⟩ := look_some hr
      rw [hq]
      show (if q.n = r.n then r else q).g = r.g
      rw [if_pos (look_mem hq).2]
    unfold DrawnG at D ⊢
    rw [hs, hg, hk]
    exact D
end
/-! ### one more -/
theorem add_set {L : List Ent} {r0 r : Rw} {a : Addr} (hn : r.n = r0.n) (nin : r.n ∉ numsL L) : setL (L ++ [(r0, a)]) r = L ++ [(r, a)] := by
  unfold setL
  rw [List.map_append]
  congr 1
  · have : ∀ e ∈ L, (if e.1.n = r.n then (r, e.2) else e) = e := fun e me => if_neg fun z => nin (by rw [← z]; exact List.mem_map_of_mem (f := fun e : Ent => e.1.n) me)
    rw [List.map_congr_left this]
    simp
  · simp [hn]
theorem Sess.add {L : List Ent} {r0 r : Rw} {a : Addr} (hB : L ≠ [] → Born (rowsL L)) (B0 : Born (rowsL (L ++ [(r0, a)]))) (B1 : Born (rowsL (L ++ [(r, a)]))) (hn : r.n = r0.n) (hu : r.up = r0.up) (ha : r.ad = r0.ad) (h0 : r0.s = 0) (pl : 2 ≤ r.n ∧ (r.n ≤ 20 ∨ r.n = 199)) (nin : r.n ∉ numsL L) (hup : r.up = 1 ∨ r.up ∈ numsL L)
    (D : Drawn0 (famL (L ++ [(r0, a)])) r0.n r.s) (S : Sess (famL L) (numsL L)) : Sess (famL (L ++ [(r, a)])) (numsL L ++ [r.n]) := by
  have W0 := wfL B0
  have W1 := wfL B1
  have k0 : ∀ m, m ∈ keys (famL (L ++ [(r0, a)])) ↔ m ∈ numsL L ∨ m = r.n := fun m => by
    rw [← num_iff B0]
    unfold numsL
    rw [List.map_append, List.mem_append, hn]
    simp
  have k1 : ∀ m, m ∈ keys (famL (L ++ [(r, a)])) ↔ m ∈ numsL L ∨ m = r.n := fun m => by
    rw [← num_iff B1]
    unfold numsL
    rw [List.map_append, List.mem_append]
    simp
  have n0 : (r0, a) ∈ L ++ [(r0, a)] := List.mem_append_right _ (List.mem_singleton.mpr rfl)
  have n1 : (r, a) ∈ L ++ [(r, a)] := List.mem_append_right _ (List.mem_singleton.mpr rfl)
  have un0 : up (famL (L ++ [(r0, a)])) r.n = r.up := by rw [hn, hu]; exact W0.up (row_in B0 n0)
  have un1 : up (famL (L ++ [(r, a)])) r.n = r.up := W1.up (row_in B1 n1)
  have sn0 : ses (famL (L ++ [(r0, a)])) r.n = 0 := by rw [hn, ← h0]; exact W0.ses (row_in B0 n0)
  have sn1 : ses (famL (L ++ [(r, a)])) r.n = r.s := W1.ses (row_in B1 n1)
  have an0 : ado (famL (L ++ [(r0, a)])) r.n = r.ad := by rw [hn, ha]; exact W0.ado (row_in B0 n0)
  have an1 : ado (famL (L ++ [(r, a)])) r.n = r.ad := W1.ado (row_in B1 n1)
  have ent : ∀ m ∈ numsL L, ∃ e ∈ L, e.1.n = m := fun m mm => by
    obtain ⟨e, me, z⟩ := List.mem_map.mp mm
    exact ⟨e, me, z⟩
  have BL : ∀ {m}, m ∈ numsL L → Born (rowsL L) := fun {m} mm => hB fun z => by rw [z] at mm; cases mm
  have uo0 : ∀ m ∈ numsL L, up (famL (L ++ [(r0, a)])) m = up (famL L) m := fun m mm => by
    obtain ⟨e, me, rfl⟩ := ent m mm
    rw [W0.up (row_in B0 (List.mem_append_left _ me)), (wfL (BL mm)).up (row_in (BL mm) me)]
  have uo1 : ∀ m ∈ numsL L, up (famL (L ++ [(r, a)])) m = up (famL L) m := fun m mm => by
    obtain ⟨e, me, rfl⟩ := ent m mm
    rw [W1.up (row_in B1 (List.mem_append_left _ me)), (wfL (BL mm)).up (row_in (BL mm) me)]
  have so0 : ∀ m ∈ numsL L, ses (famL (L ++ [(r0, a)])) m = ses (famL L) m := fun m mm => by
    obtain ⟨e, me, rfl⟩ := ent m mm
    rw [W0.ses (row_in B0 (List.mem_append_left _ me)), (wfL (BL mm)).ses (row_in (BL mm) me)]
  have so1 : ∀ m ∈ numsL L, ses (famL (L ++ [(r, a)])) m = ses (famL L) m := fun m mm => by
    obtain ⟨e, me, rfl⟩ := ent m mm
    rw [W1.ses (row_in B1 (List.mem_append_left _ me)), (wfL (BL mm)).ses (row_in (BL mm) me)]
  have ao0 : ∀ m ∈ numsL L, ado (famL (L ++ [(r0, a)])) m = ado (famL L) m := fun m mm => by
    obtain ⟨e, me, rfl⟩ := ent m mm
    rw [W0.ado (row_in B0 (List.mem_append_left _ me)), (wfL (BL mm)).ado (row_in (BL mm) me)]
  have ao1 : ∀ m ∈ numsL L, ado (famL (L ++ [(r, a)])) m = ado (famL L) m := fun m mm => by
    obtain ⟨e, me, rfl⟩ := ent m mm
    rw [W1.ado (row_in B1 (List.mem_append_left _ me)), (wfL (BL mm)).ado (row_in (BL mm) me)]
  have upo : ∀ m ∈ numsL L, up (famL L) m = 1 ∨ up (famL L) m ∈ numsL L := fun m mm => by
    have B := BL mm
    by_cases z : up (famL L) m = 1
    · exact .inl z
    · exact .inr ((num_iff B).mpr ((wfL B).up_in ((num_iff B).mp mm) z))
  -- sessions and adopting of parents
  have sp1 : ∀ u, u = 1 ∨ u ∈ numsL L → ses (famL (L ++ [(r, a)])) u = ses (famL (L ++ [(r0, a)])) u := fun u h => by
    rcases h with rfl | h
    · rw [ses1 W0, ses1 W1]
    · rw [so0 u h, so1 u h]
  have ap1 : ∀ u, u = 1 ∨ u ∈ numsL L → ado (famL (L ++ [(r, a)])) u = ado (famL (L ++ [(r0, a)])) u := fun u h => by
    rcases h with rfl | h
    · rw [ado1 W0, ado1 W1]
    · rw [ao0 u h, ao1 u h]
  have spo : ∀ m ∈ numsL L, ses (famL (L ++ [(r, a)])) (up (famL L) m) = ses (famL L) (up (famL L) m) := fun m mm => by
    rcases upo m mm with h | h
    · rw [h, ses1 W1, ses1 (wfL (BL mm))]
    · exact so1 _ h
  have apo : ∀ m ∈ numsL L, ado (famL (L ++ [(r, a)])) (up (famL L) m) = ado (famL L) (up (famL L) m) := fun m mm => by
    rcases upo m mm with h | h
    · rw [h, ado1 W1, ado1 (wfL (BL mm))]
    · exact ao1 _ h
  have adA : ∀ k ∈ numsL L, adopter (famL (L ++ [(r, a)])) k = adopter (famL L) k := fun k mk => by
    have B := BL mk
    exact adopter_congr (wfL B) W1 (fun m h => (k1 m).mpr (.inl ((num_iff B).mpr h))) (fun m h => uo1 m ((num_iff B).mpr h)) (fun m h => apo m ((num_iff B).mpr h)) k ((num_iff B).mp mk)
  have ad0 : ∀ k ∈ keys (famL (L ++ [(r0, a)])), adopter (famL (L ++ [(r, a)])) k = adopter (famL (L ++ [(r0, a)])) k := by
    have hu' : ∀ m ∈ keys (famL (L ++ [(r0, a)])), up (famL (L ++ [(r, a)])) m = up (famL (L ++ [(r0, a)])) m := fun m h => by
      rcases (k0 m).mp h with h | h
      · rw [uo0 m h, uo1 m h]
      · rw [h, un0, un1]
    refine adopter_congr W0 W1 (fun m h => (k1 m).mpr ((k0 m).mp h)) hu' (fun m h => ap1 _ ?_)
    rcases (k0 m).mp h with h | h
    · rw [uo0 m h]; exact upo m h
    · rw [h, un0]; exact hup
  have tO : ∀ s, ∀ m ∈ numsL L, topB (famL (L ++ [(r, a)])) s m = topB (famL L) s m := fun s m mm => by
    unfold topB
    rw [so1 m mm, uo1 m mm, spo m mm]
  have tO0 : ∀ s, ∀ m ∈ numsL L, topB (famL (L ++ [(r0, a)])) s m = topB (famL L) s m := fun s m mm => by
    unfold topB
    rw [so0 m mm, uo0 m mm, ← sp1 _ (upo m mm), spo m mm]
  have tN : ∀ s, topB (famL (L ++ [(r, a)])) s r.n = true → r.s = s ∧ (r.up = 1 ∨ ses (famL (L ++ [(r0, a)])) r.up ≠ s) := fun s h => by
    unfold topB at h
    rw [sn1, un1, sp1 _ hup] at h
    simp only [Bool.and_eq_true, Bool.or_eq_true, Bool.not_eq_true', decide_eq_false_iff_not, decide_eq_true_eq] at h
    exact h
  have plA : ∀ m, m ∈ numsL L ∨ m = r.n → 2 ≤ m ∧ (m ≤ 20 ∨ m = 199) := fun m h => by
    rcases h with h | rfl
    · exact S.pl m h
    · exact pl
  -- what was drawn
  have D' : r.s = r.n ∨ (r.s ∈ numsL L ∧ ses (famL L) r.s = r.s ∧ adopter (famL (L ++ [(r, a)])) r.s = r.up) ∨ (r.up = 1 ∧ r.s = 1) ∨ (r.up ∈ numsL L ∧ r.s = ses (famL L) r.up) ∨ ((r.s = 30 ∨ r.s = 31) ∧ ado (famL (L ++ [(r, a)])) r.up = true ∧ ∀ m ∈ numsL L, topB (famL L) r.s m = true → up (famL L) m = r.up) := by
    rw [← hn] at D
    unfold Drawn0 at D
    rw [un0] at D
    rcases D with h | ⟨h1, h2, h3, h4⟩ | h | ⟨h1, h2, h3⟩
    · exact .inl h
    · have m : r.s ∈ numsL L := ((k0 _).mp h1).resolve_right h2
      exact .inr (.inl ⟨m, by rw [← so0 _ m]; exact h3, by rw [ad0 _ h1]; exact h4⟩)
    · by_cases z : r.up = 1
      · rw [if_pos z] at h
        exact .inr (.inr (.inl ⟨z, h⟩))
      · rw [if_neg z] at h
        have m := hup.resolve_left z
        exact .inr (.inr (.inr (.inl ⟨m, by rw [h, so0 _ m]⟩)))
    · refine .inr (.inr (.inr (.inr ⟨h1, by rw [ap1 _ hup]; exact h2, fun m mm ht => ?_⟩)))
      have := h3 m (mem_tops.mpr ⟨(k0 m).mpr (.inl mm), by rw [tO0 _ m mm]; exact ht⟩)
      rw [uo0 m mm] at this
      exact this
  have sOld : ∀ m ∈ numsL L, ses (famL L) m ≠ r.n := fun m mm z => by
    rcases S.kind m mm with h | h | h | h
    · omega
    · omega
    · omega
    · exact nin (by rw [← z]; exact h.1)
  refine ⟨fun m mm => plA m (by simpa using mm), fun m mm => ?_, fun m mm ms ne ht => ?_, fun m mm ht => ?_, fun m mm s hs ht => ?_, fun m mm k mk s hs ht ht' => ?_, fun i j m hi hj => ?_⟩
  · rcases (show m ∈ numsL L ∨ m = r.n by simpa using mm) with h | rfl
    · rw [so1 m h]
      rcases S.kind m h with z | z | z | z
      · exact .inl z
      · exact .inr (.inl z)
      · exact .inr (.inr (.inl z))
      · exact .inr (.inr (.inr ⟨List.mem_append_left _ z.1, by rw [so1 _ z.1]; exact z.2⟩))
    · rw [sn1]
      rcases D' with z | z | z | z | z
      · exact .inr (.inr (.inr ⟨by rw [z]; simp, by rw [z, sn1]; exact z⟩))
      · exact .inr (.inr (.inr ⟨List.mem_append_left _ z.1, by rw [so1 _ z.1]; exact z.2.1⟩))
      · exact .inl z.2
      · rw [z.2]
        rcases S.kind _ z.1 with y | y | y | y
        · exact .inl y
        · exact .inr (.inl y)
        · exact .inr (.inr (.inl y))
        · exact .inr (.inr (.inr ⟨List.mem_append_left _ y.1, by rw [so1 _ y.1]; exact y.2⟩))
      · rcases z.1 with y | y
        · exact .inr (.inl y)
        · exact .inr (.inr (.inl y))
  · rcases (show m ∈ numsL L ∨ m = r.n by simpa using mm) with h | rfl
    · rw [so1 m h] at ms ne ht ⊢
      have ms' : ses (famL L) m ∈ numsL L := by
        rcases (show ses (famL L) m ∈ numsL L ∨ ses (famL L) m = r.n by simpa using ms) with w | w
        · exact w
        · exact absurd w (sOld m h)
      rw [tO _ m h] at ht
      rw [uo1 m h, adA _ ms']
      exact S.led m h ms' ne ht
    · rw [sn1] at ms ne ht ⊢
      rw [un1]
      have pm := plA r.s (by simpa using ms)
      obtain ⟨_, t2⟩ := tN _ ht
      rcases D' with z | z | z | z | z
      · exact absurd z ne
      · exact z.2.2.symm
      · omega
      · rcases t2 with y | y
        · have := plA _ (.inl z.1)
          omega
        · rw [so0 _ z.1] at y
          exact absurd z.2.symm y
      · omega
  · rcases (show m ∈ numsL L ∨ m = r.n by simpa using mm) with h | rfl
    · rw [tO _ m h] at ht
      rw [uo1 m h]
      exact S.one m h ht
    · rw [un1]
      obtain ⟨t1, t2⟩ := tN _ ht
      rcases D' with z | z | z | z | z
      · omega
      · have := S.pl _ z.1
        omega
      · exact z.1
      · rcases t2 with y | y
        · exact y
        · rw [so0 _ z.1] at y
          exact absurd (z.2.symm.trans t1) y
      · omega
  · rcases (show m ∈ numsL L ∨ m = r.n by simpa using mm) with h | rfl
    · rw [tO _ m h] at ht
      rw [uo1 m h, apo m h]
      exact S.lost1 m h s hs ht
    · rw [un1]
      obtain ⟨t1, t2⟩ := tN _ ht
      rcases D' with z | z | z | z | z
      · omega
      · have := S.pl _ z.1
        omega
      · omega
      · rcases t2 with y | y
        · rw [y]; exact ado1 W1
        · rw [so0 _ z.1] at y
          exact absurd (z.2.symm.trans t1) y
      · exact z.2.1
  · -- two tops of a session that nobody leads
    have one : ∀ k ∈ numsL L, topB (famL (L ++ [(r, a)])) s k = true → topB (famL (L ++ [(r, a)])) s r.n = true → up (famL L) k = r.up := fun k mk tk tn => by
      rw [tO _ k mk] at tk
      obtain ⟨t1, t2⟩ := tN _ tn
      rcases D' with z | z | z | z | z
      · omega
      · have := S.pl _ z.1
        omega
      · omega
      · rcases t2 with y | y
        · have := S.pl _ z.1
          omega
        · rw [so0 _ z.1] at y
          exact absurd (z.2.symm.trans t1) y
      · exact z.2.2 k mk (by rw [t1]; exact tk)
    rcases (show m ∈ numsL L ∨ m = r.n by simpa using mm) with h | rfl
    · rcases (show k ∈ numsL L ∨ k = r.n by simpa using mk) with h' | rfl
      · rw [tO _ m h] at ht
        rw [tO _ k h'] at ht'
        rw [uo1 m h, uo1 k h']
        exact S.lost2 m h k h' s hs ht ht'
      · rw [uo1 m h, un1]
        exact one m h ht ht'
    · rcases (show k ∈ numsL L ∨ k = r.n by simpa using mk) with h' | rfl
      · rw [uo1 k h', un1]
        exact (one k h' ht' ht).symm
      · rfl
  · have hj' := (List.getElem?_eq_some_iff.mp hj).1
    rw [List.length_append] at hj'
    have hj' : j < (numsL L).length + 1 := hj'
    rw [List.getElem?_append] at hi
    by_cases hi' : i < (numsL L).length
    · rw [if_pos hi'] at hi
      have mm := List.mem_of_getElem? hi
      rw [so1 m mm, List.getElem?_append] at hj
      by_cases w : j < (numsL L).length
      · rw [if_pos w] at hj
        exact S.early i j m hi hj
      · rw [if_neg w] at hj
        have e0 : j - (numsL L).length = 0 := by omega
        rw [e0] at hj
        exact absurd (Option.some.inj hj).symm (sOld m mm)
    · omega
/-! ### nothing bars -/
theorem free0 {M : Fam} (W : WF M) {l : List Int} (hl : ∀ n, n ∈ l ↔ n ∈ keys M) (S : Sess M l) (G : Gr M l) {rk : Int → Nat} (r1 : ∀ r ∈ M, r.up ≠ 1 → rk r.up < rk r.n) (r2 : ∀ n ∈ l, ses M n ∈ l → ses M n ≠ n → rk (ses M n) < rk n) :
    (∀ s ∈ sessions M, ∀ n ∈ keys M, barsS M s n = false) ∧ (∀ g ∈ groups M, splitB M g = false) ∧ (∀ n a, need M n = some a → rk a < rk n) := by
  have inS : ∀ s ∈ sessions M, ∃ n ∈ l, ses M n = s := fun s ms => by
    obtain ⟨r, mr, e⟩ := List.mem_map.mp (mem_asc.mp ms)
    exact ⟨r.n, (hl _).mpr (List.mem_map_of_mem (f := fun r : Rw => r.n) mr), by rw [W.ses mr]; exact e⟩
  have inG : ∀ g ∈ groups M, ∃ n ∈ l, grp M n = g := fun g ms => by
    obtain ⟨r, mr, e⟩ := List.mem_map.mp (mem_asc.mp ms)
    exact ⟨r.n, (hl _).mpr (List.mem_map_of_mem (f := fun r : Rw => r.n) mr), by rw [W.grp mr]; exact e⟩
  have kd : ∀ s ∈ sessions M, (s ∉ l ∧ (s = 1 ∨ s = 30 ∨ s = 31)) ∨ (s ∈ l ∧ ses M s = s) := fun s ms => by
    obtain ⟨n, mn, rfl⟩ := inS s ms
    have nl : ∀ k : Int, k = 1 ∨ k = 30 ∨ k = 31 → k ∉ l := fun k h m => by
      have := S.pl k m
      omega
    rcases S.kind n mn with h | h | h | h
    · exact .inl ⟨nl _ (.inl h), .inl h⟩
    · exact .inl ⟨nl _ (.inr (.inl h)), .inr (.inl h)⟩
    · exact .inl ⟨nl _ (.inr (.inr h)), .inr (.inr h)⟩
    · exact .inr h
  refine ⟨fun s ms n mn => ?_, fun g mg => ?_, fun n a h => ?_⟩
  · have ml := (hl n).mpr mn
    unfold barsS
    rcases kd s ms with ⟨h1, h2⟩ | ⟨h1, h2⟩
    · rw [if_neg fun z => h1 ((hl s).mpr z)]
      split
      · rename_i mt
        obtain ⟨_, tn⟩ := mem_tops.mp mt
        split
        · rename_i z
          rw [z] at tn
          rw [S.one n ml tn]
          rfl
        · rename_i z
          have h3 : s = 30 ∨ s = 31 := by omega
          have hd : (tops M s).headD 1 ∈ tops M s := by
            cases hq : tops M s with
            | nil => rw [hq] at mt; cases mt
            | cons x xs => exact List.mem_cons_self
          obtain ⟨d1, d2⟩ := mem_tops.mp hd
          rw [S.lost1 n ml s h3 tn, S.lost2 n ml _ ((hl _).mpr d1) s h3 tn d2]
          simp
      · rfl
    · rw [if_pos ((hl s).mp h1)]
      split
      · rename_i z
        rw [z, h2, (show grp M s = s from (G s h1).1 h2)]
        simp
      · rename_i z
        by_cases mt : n ∈ tops M s
        · obtain ⟨_, tn⟩ := mem_tops.mp mt
          have es : ses M n = s := by
            unfold topB at tn
            rw [Bool.and_eq_true] at tn
            exact of_decide_eq_true tn.1
          rw [← es] at tn h1
          rw [S.led n ml h1 (by rw [es]; exact fun w => z w.symm) tn, es]
          simp
        · rw [decide_eq_false mt]
          rfl
  · obtain ⟨n, mn, eg⟩ := inG g mg
    -- one session alone
    have sv : ∀ m ∈ l, 2 ≤ ses M m ∧ (ses M m ≤ 20 ∨ ses M m = 199) ∧ ses M m ∈ l ∧ ses M (ses M m) = ses M m ∨ (ses M m = 1 ∨ ses M m = 30 ∨ ses M m = 31) := fun m mm => by
      rcases S.kind m mm with h | h | h | h
      · exact .inr (.inl h)
      · exact .inr (.inr (.inl h))
      · exact .inr (.inr (.inr h))
      · exact .inl ⟨(S.pl _ h.1).1, (S.pl _ h.1).2, h.1, h.2⟩
    have low : ∀ m ∈ l, grp M m ∈ l → ses M (grp M m) = ses M m := fun m mm h => by
      have p1 := S.pl _ h
      have p2 := sv m mm
      rcases (G m mm).2 with z | z | z | z
      · rw [z] at h ⊢
        rcases p2 with y | y
        · exact y.2.2.2
        · omega
      · exact z.2
      · omega
      · omega
    have one : ∀ m ∈ l, grp M m = g → ses M m = ses M n := fun m mm em => by
      by_cases gl : g ∈ l
      · have e1 := low m mm (by rw [em]; exact gl)
        have e2 := low n mn (by rw [eg]; exact gl)
        rw [← e1, ← e2, em, eg]
      · have p1 := sv m mm
        have p2 := sv n mn
        have n1 : ∀ k ∈ l, grp M k = g → ¬ (grp M k ∈ keys M ∧ ses M (grp M k) = ses M k) := fun k _ e z => gl ((hl g).mpr (by rw [← e]; exact z.1))
        rcases (G m mm).2 with z | z | z | z
        · rcases (G n mn).2 with y | y | y | y
          · omega
          · exact absurd y (n1 n mn eg)
          · omega
          · omega
        · exact absurd z (n1 m mm em)
        · rcases (G n mn).2 with y | y | y | y
          · omega
          · exact absurd y (n1 n mn eg)
          · omega
          · omega
        · rcases (G n mn).2 with y | y | y | y
          · omega
          · exact absurd y (n1 n mn eg)
          · omega
          · omega
    have ow : owners M g = [ses M n] := by
      refine (asc_eq (List.pairwise_singleton _ _) fun k => ?_).symm
      rw [List.mem_singleton]
      constructor
      · rintro rfl
        obtain ⟨r, mr, e⟩ := W.row ((hl n).mp mn)
        refine List.mem_map.mpr ⟨r, List.mem_filter.mpr ⟨mr, decide_eq_true ?_⟩, ?_⟩
        · rw [← W.grp mr, e]; exact eg
        · rw [← W.ses mr, e]
      · intro h
        obtain ⟨r, mr, e⟩ := List.mem_map.mp h
        obtain ⟨m1, m2⟩ := List.mem_filter.mp mr
        have mk : r.n ∈ l := (hl _).mpr (List.mem_map_of_mem (f := fun r : Rw => r.n) m1)
        rw [← e, ← W.ses m1]
        exact one r.n mk (by rw [W.grp m1]; exact of_decide_eq_true m2)
    unfold splitB
    rw [ow]
    have a1 : decide (1 < [ses M n].length) = false := by simp
    have a2 : (decide (g ∈ keys M) && !decide (ses M g = [ses M n].headD 1)) = false := by
      by_cases z : g ∈ keys M
      · have := low n mn (by rw [eg]; exact (hl g).mpr z)
        rw [eg] at this
        simp [this]
      · simp [z]
    have a3 : ((decide (g = 1) || decide (g ∈ M.map (·.s))) && !decide (g = [ses M n].headD 1)) = false := by
      by_cases z : g = ses M n
      · simp [z]
      · have g1 : g ≠ 1 := fun w => by
          have p2 := sv n mn
          rcases (G n mn).2 with y | y | y | y
          · exact z (eg.symm.trans y)
          · have := S.pl _ ((hl _).mpr y.1)
            omega
          · omega
          · omega
        have g2 : g ∉ M.map (·.s) := fun w => by
          have ms : g ∈ sessions M := mem_asc.mpr w
          have p2 := sv n mn
          rcases kd g ms with y | y
          · rcases (G n mn).2 with x | x | x | x
            · exact z (eg.symm.trans x)
            · exact y.1 ((hl g).mpr (by rw [← eg]; exact x.1))
            · omega
            · omega
          · have := low n mn (by rw [eg]; exact y.1)
            rw [eg, y.2] at this
            exact z this
        simp [g1, g2]
    rw [a1, a2, a3]
    rfl
  · unfold need at h
    split at h
    · rename_i z
      obtain ⟨z1, z2, z3⟩ := z
      have mn : n ∈ keys M := by
        by_cases w : n ∈ keys M
        · exact w
        · have : ses M n = 1 := by unfold ses; rw [look_none w]; rfl
          rw [this] at z1
          exact absurd z1 W.one
      have ha := List.mem_of_find?_eq_some h
      have hp := List.find?_some h
      have a1 : a ≠ 1 := by
        rw [Bool.and_eq_true] at hp
        simpa using hp.1
      have r3 := r2 n ((hl n).mpr mn) ((hl _).mpr z1) z2
      rcases List.mem_cons.mp ha with w | w
      · rw [w]; exact r3
      · exact Nat.lt_trans (above_rk W r1 _ z1 a w a1) r3
    · cases h
theorem born_rk {l : List Rw} (B : Born l) : ∀ r ∈ srtR l, r.up ≠ 1 → place l r.up < place l r.n := fun r m z => by
  obtain ⟨i, h⟩ := List.mem_iff_getElem?.mp ((mem_srtR B.nd).mp m)
  have zi : i ≠ 0 := fun w => z ((B.par i r h).1.mpr w)
  obtain ⟨j, q, hj, hq, e⟩ := (B.par i r h).2 zi
  rw [place_of B.nd h, ← e, place_of B.nd hq]
  exact hj
theorem early_rk {L : List Ent} (B : Born (rowsL L)) (S : Sess (famL L) (numsL L)) : ∀ n ∈ numsL L, ses (famL L) n ∈ numsL L → ses (famL L) n ≠ n → place (rowsL L) (ses (famL L) n) < place (rowsL L) n := fun n mn ms ne => by
  obtain ⟨i, hi⟩ := List.mem_iff_getElem?.mp mn
  obtain ⟨j, hj⟩ := List.mem_iff_getElem?.mp ms
  have le := S.early i j n hi hj
  have pos : ∀ {k : Nat} {m : Int}, (numsL L)[k]? = some m → place (rowsL L) m = k := fun {k m} h => by
    have e : numsL L = (rowsL L).map (·.n) := by unfold rowsL numsL; rw [List.map_map]; rfl
    rw [e, List.getElem?_map] at h
    obtain ⟨q, hq, rfl⟩ := Option.map_eq_some_iff.mp h
    exact place_of B.nd hq
  rw [pos hi, pos hj]
  have : j ≠ i := fun z => by
    rw [z, hi] at hj
    exact ne (Option.some.inj hj).symm
  omega
def Free0 (M : Fam) : Prop := ∃ rk : Int → Nat, (∀ s ∈ sessions M, ∀ n ∈ keys M, barsS M s n = false) ∧ (∀ g ∈ groups M, splitB M g = false) ∧ (∀ n a, need M n = some a → rk a < rk n)
theorem free_fam {L : List Ent} (B : Born (rowsL L)) (S : Sess (famL L) (numsL L)) (G : Gr (famL L) (numsL L)) : Free0 (famL L) :=
  ⟨place (rowsL L), free0 (wfL B) (fun n => num_iff B) S G (born_rk B) (early_rk B S)⟩
end KB
set_option Elab.async false
set_option linter.all false
set_option maxRecDepth 100000
set_option maxHeartbeats 4000000
namespace Evl
open PySem L2
section
variable {K : PySem.W.Frag} {σ : L2.St} {H H' G : Hp} {ta tb te tx td tl : TE}
theorem el_rep {xs : List V} {k : Int} (ha : EvL ta σ H xs) (hb : Ev tb σ H (.int k)) (k0 : 0 ≤ k) (k1 : k ≤ 100) (hx : xs.length ≤ 100) : EvL (tOp rRep ta tb) σ H (List.replicate k.toNat xs).flatten := fun H1 e Q q =>
  ha H1 e _ fun p H2 np e2 gp => hb H2 (e.trans e2) _ fun H3 e3 => ⟨p, k, xs, rfl, rfl, e3 _ _ gp, by omega, by omega, sz_of (by
    have : xs.length * k.toNat ≤ 100 * 100 := Nat.mul_le_mul hx (by omega)
    omega), fun l nl => q l _ (fresh_back (e2.trans e3) nl) ((e2.trans e3).trans (Ex.new nl)) upd_same⟩
theorem ev_eqNil {d : Addr} {kvs : List (Key × V)} (h : Ev ta σ H (.ref d)) (g : H d = some (.dK kvs)) : Ev (tOp rEqNil ta tDNewK) σ H (.bl kvs.isEmpty) := fun H1 e Q q =>
  h H1 e _ fun H2 e2 => fun r nr => ⟨d, r, kvs, rfl, rfl, Ex.new nr _ _ (e2 _ _ (e _ _ g)), upd_same, q _ (e2.trans (Ex.new nr))⟩
theorem ev_neNil {d : Addr} {kvs : List (Key × V)} (h : Ev ta σ H (.ref d)) (g : H d = some (.dK kvs)) : Ev (tOp rNeNil ta tDNewK) σ H (.bl (!kvs.isEmpty)) := fun H1 e Q q =>
  h H1 e _ fun H2 e2 => fun r nr => ⟨d, r, kvs, rfl, rfl, Ex.new nr _ _ (e2 _ _ (e _ _ g)), upd_same, q _ (e2.trans (Ex.new nr))⟩
end
end Evl
namespace KB
open PySem PySem.Spec PyProof.Rows L2 Evl
abbrev sFamily : Stmt := topS 39
abbrev nFamily : List Str := ["_law_box_here", "_law_mode", "_law_most", "_law_names_here", "_law_kin", "_law_n", "_law_up", "_law_row", "_law_k"]
theorem scFamily : FnScope nFamily ["_law_box_here", "_law_mode", "_law_most"] (defScope sFamily) := ⟨rfl, rfl, rfl, by decide +kernel, rfl, by decide +kernel, by decide +kernel⟩
def spFamily : Sp := fun vs H Q _ => ∃ (p : Addr) (c md mo : Int), vs = [.ref p, .int md, .int mo] ∧ Src H p c ∧ c < 90000 ∧ 0 ≤ md ∧ md ≤ 2 ∧ 0 < mo ∧ mo ≤ 15 ∧
  ∀ (kd : Addr) (L : List Ent) (c' : Int) (H' : Hp), Off p H H' → LkU H' kd L → Born (rowsL L) → Bd L → Apt p L → (md = 0 → Free0 (famL L)) → Src H' p c' → c ≤ c' → c' ≤ c + 200 → Q (.ref kd) H'
theorem nums_len (L : List Ent) : (numsL L).length = L.length := List.length_map _
theorem flat_rep (k : Nat) (n : Int) : (List.replicate k [V.int n]).flatten = (List.replicate k n).map V.int := by
  induction k with
  | zero => rfl
  | succ k ih => rw [List.replicate_succ, List.flatten_cons, ih, List.replicate_succ]; rfl
theorem Src.off {p a : Addr} {H : Hp} {c : Int} {o : HO} (S : Src H p c) (n : a ≠ p) : Src (upd H a o) p c := by
  obtain ⟨x, y, h, r⟩ := S
  exact ⟨x, y, (upd_ne n.symm).trans h, r⟩
section
variable {P : Program} {w : World} {K : PySem.W.Frag} {mg : Str → Option Value} {base : Heap} {f fN fD fP fS fG : Addr} {fd dN dD dP dS dG : FuncData}
theorem ok_family (F : Fun K "_law_family" "_law_family" sFamily f fd) (mo' : mg "sorted" = none)
    (GN : FnOk P w K mg base CX0 2 fN dN ["_law_box_here", "_law_most"] spNames) (bN : Binds K dN ["_law_box_here", "_law_most"] []) (kN : PySem.W.keepIn K (.ref fN) = true) (mN : mg "_law_names" = some (.ref fN))
    (GD : FnOk P w K mg base CX0 1 fD dD ["_law_box_here", "_law_below"] spTake) (bD : Binds K dD ["_law_box_here", "_law_below"] []) (kD : PySem.W.keepIn K (.ref fD) = true) (mD : mg "_law_take" = some (.ref fD))
    (GP : FnOk P w K mg base CX0 2 fP dP ["_law_box_here", "_law_some"] spPick) (bP : Binds K dP ["_law_box_here", "_law_some"] []) (kP : PySem.W.keepIn K (.ref fP) = true) (mP : mg "_law_pick" = some (.ref fP))
    (GS : FnOk P w K mg base CX0 3 fS dS ["_law_box_here", "_law_kin", "_law_names_here", "_law_n", "_law_mode"] spSession) (bS : Binds K dS ["_law_box_here", "_law_kin", "_law_names_here", "_law_n", "_law_mode"] []) (kS : PySem.W.keepIn K (.ref fS) = true) (mS : mg "_law_session" = some (.ref fS))
    (GG : FnOk P w K mg base CX0 3 fG dG ["_law_box_here", "_law_kin", "_law_n", "_law_mode"] spGroup) (bG : Binds K dG ["_law_box_here", "_law_kin", "_law_n", "_law_mode"] []) (kG : PySem.W.keepIn K (.ref fG) = true) (mG : mg "_law_group" = some (.ref fG)) :
    FnOk P w K mg base CX0 4 f fd ["_law_box_here", "_law_mode", "_law_most"] spFamily := by
  refine F.ok scFamily (fun vs H Q E h => ?_) (fun cdv A outer s H vs Q E hr h => ?_)
  · obtain ⟨p, c, md, mo, rfl, _⟩ := h
    rfl
  · obtain ⟨p, c, md, mo, rfl, S, hc, md0, md1, mo0, mo1, q⟩ := h
    have hu := hu_of hr
    have hu0 := Nat.lt_of_succ_lt hu
    have h1 : Room 1 _ := hr.mono (by decide)
    have h2 : Room 2 _ := hr.mono (by decide)
    refine ⟨_, pss_cons (ps_asg (pe_tup (pa_cons (pe_call GN h2 rfl mN kN bN .nil pass0 (pa_cons (pv 0) (pa_cons (pv 2) pa_nil))) (pa_cons pe_dnewK pa_nil)))
        (pg_tup rfl (pgs_cons (pg_name (i := 3) scFamily.nd rfl (by first | exact .inl rfl | exact .inr rfl)) (pgs_cons (pg_name (i := 4) scFamily.nd rfl (by first | exact .inl rfl | exact .inr rfl)) pgs_nil))))
      (pss_cons (ps_for PassesOwn.never rfl (pi_list (pv 3)) (pg_name (i := 5) scFamily.nd rfl (by first | exact .inl rfl | exact .inr rfl))
        (pss_cons (ps_set (i := 6) scFamily.nd rfl (.inl rfl) (pe_ifExp (pt_cmpR (op_neNil hu0) (pv 4) pe_dnewK (nomark _)) (pe_call GP h2 rfl mP kP bP .nil pass0 (pa_cons (pv 0) (pa_cons (pe_op op_cat (pe_callB (cr_srtD rfl) (by rfl) mo' (by decide +kernel) (pa_cons (pv 4) pa_nil)) (pe_op op_rep (pe_lst (pa_cons (pe_ix ix_list (pv 3) pe_int (fun _ _ => rfl)) pa_nil)) (pv 1))) pa_nil))) pe_int))
        (pss_cons (ps_set (i := 7) scFamily.nd rfl (.inl rfl) (pe_lst (pa_cons (pv 6) (pa_cons pe_int (pa_cons pe_int (pa_cons (pe_or (pe_cmpR op_eq (pe_call GD h1 rfl mD kD bD .nil pass0 (pa_cons (pv 0) (pa_cons (pe_op op_add pe_int (pv 1)) pa_nil))) pe_int (nomark _)) (pe_one (pe_and (pe_cmpR op_eq (pv 1) pe_int (nomark _)) (pe_one (pe_cmpR (op_eqNil hu0) (pv 4) pe_dnewK (nomark _)))))) (pa_cons pe_str pa_nil)))))))
        (pss_cons (ps_dput hu (pv 4) (pv 5) (pv 7) rfl)
        (pss_one (ps_asg (pe_call GS hr rfl mS kS bS .nil pass0 (pa_cons (pv 0) (pa_cons (pv 4) (pa_cons (pv 3) (pa_cons (pv 5) (pa_cons (pv 1) pa_nil)))))) (pg_sub (pv 7) pe_int set_list)))))))
      (pss_cons (ps_for PassesOwn.never rfl (pi_list (pv 3)) (pg_name (i := 5) scFamily.nd rfl (by first | exact .inl rfl | exact .inr rfl))
        (pss_cons (ps_set (i := 7) scFamily.nd rfl (.inl rfl) (pe_dget hu (pv 4) (pv 5) (fun _ _ => rfl)))
        (pss_cons (ps_asg (pe_call GG hr rfl mG kG bG .nil pass0 (pa_cons (pv 0) (pa_cons (pv 4) (pa_cons (pv 5) (pa_cons (pv 1) pa_nil))))) (pg_sub (pv 7) pe_int set_list))
        (pss_one (ps_if (PW.pt (pw_and (pt_cmpR op_notIn_seq (pv 5) (pe_lock
            (pe_lc (own := [("_law_k", 8)]) (g := gName 8) (tt := tYes) (te := tKin K 4 8 0) rfl scFamily.nd (pi_keys (pv 4)) (blkOk_by (N := nFamily) (sc := defScope sFamily) (by decide +kernel))
              (fun _ _ _ _ _ => pg_name (i := 8) scFamily.nd rfl (Or.inl rfl)) (fun _ _ _ _ _ => pts_nil) (fun _ _ _ _ _ => pe_ix ix_list (pe_dget hu (pv 4) (pv 8) (fun _ _ => rfl)) pe_int (fun _ _ => rfl)))) rfl)
            (pw_and (pt_cmpR op_ne (pe_ix ix_list (pv 7) pe_int (fun _ _ => rfl)) pe_int (nomark _)) (pw_and1 (pt_cmpR op_eq (pe_call GD h1 rfl mD kD bD .nil pass0 (pa_cons (pv 0) (pa_cons pe_int pa_nil))) pe_int (nomark _))))))
          (pss_one (ps_asg (pe_tup (pa_cons pe_bl (pa_cons pe_str pa_nil))) (pg_tup rfl (pgs_cons (pg_sub (pv 7) pe_int set_list) (pgs_cons (pg_sub (pv 7) pe_int set_list) pgs_nil)))))
          (pss_one (ps_if (pt_cmpR op_eq (pe_call GD h1 rfl mD kD bD .nil pass0 (pa_cons (pv 0) (pa_cons pe_int pa_nil))) pe_int (nomark _)) (pss_one (ps_asg pe_str (pg_sub (pv 7) pe_int set_list))) pss_nil)))))))
      (pss_one (ps_ret (pv 4))))), ?_⟩
    refine ⟨_, rfl, _, rfl, p, c, mo, rfl, S, by omega, mo0, mo1, fun nm ns c1 H1 nnm o1 gnm ndn bns pos len c10 c11 S1 => fun kd nkd => ⟨by show 2 ≤ sizeLine; decide, fun t nt => ?_⟩⟩
    refine ⟨t, _, rfl, .inl (.inl upd_same), rfl, _, _, rfl, _, _, rfl, rfl, ?_⟩
    have e2 : Ex H1 (upd (upd H1 kd (.dK [])) t (.tup [.ref nm, .ref kd])) := (Ex.new nkd).trans (Ex.new nt)
    have gk : upd (upd H1 kd (.dK [])) t (.tup [.ref nm, .ref kd]) kd = some (.dK []) := Ex.new nt _ _ upd_same
    generalize upd (upd H1 kd (.dK [])) t (.tup [.ref nm, .ref kd]) = H2 at e2 gk ⊢
    obtain ⟨n0, rest, ens⟩ : ∃ n0 rest, ns = n0 :: rest := by
      cases ns with
      | nil => exact absurd pos (by decide)
      | cons a l => exact ⟨a, l, rfl⟩
    have ns15 : ns.length ≤ 15 := by omega
    have nmp : nm ≠ p := fun z => by
      obtain ⟨a, b, h, _⟩ := S
      rw [z, h] at nnm
      cases nnm
    have nkH : H kd = none := by
      cases hk : H kd with
      | none => rfl
      | some o =>
        by_cases z : kd = p
        · obtain ⟨a, b, h, _⟩ := S1
          rw [z, h] at nkd
          cases nkd
        · rw [o1 _ _ z hk] at nkd
          cases nkd
    have nbnd : ∀ x ∈ ns, 0 ≤ x ∧ x ≤ 300 := fun x m => by have := bns x m; exact ⟨by omega, by omega⟩
    -- the first walk
    refine ⟨_, rfl, nm, rfl, ⟨_, sq_of (e2 _ _ gnm)⟩, ?_⟩
    refine for_it (walk_list (K := K) (a := nm) (xs := ns.map V.int)) (fun i σ G => (∃ y5 y6 y7 y8, σ = [some (.ref p), some (.int md), some (.int mo), some (.ref nm), some (.ref kd), y5, y6, y7, y8]) ∧ Off p H G ∧ G nm = some (.lst (ns.map V.int)) ∧
        ∃ (L : List Ent) (c2 : Int), LkU G kd L ∧ numsL L = ns.take i ∧ (i ≠ 0 → Born (rowsL L)) ∧ (md = 0 → Sess (famL L) (numsL L)) ∧ Bd L ∧ AdN L ∧ Apt p L ∧ Apt nm L ∧ (∀ e ∈ L, H e.2 = none) ∧ Src G p c2 ∧ c ≤ c2 ∧ c2 ≤ c + 20 + 4 * i)
      ⟨⟨_, _, _, _, rfl⟩, o1.ex e2, e2 _ _ gnm, [], c1, ⟨gk, fun e m => nomatch m⟩, rfl, fun z => absurd rfl z, (fun _ => Sess.nil), (fun e m => nomatch m), List.nodup_nil, (fun e m => nomatch m), (fun e m => nomatch m), (fun e m => nomatch m), S1.ex e2, c10, by omega⟩ (fun i σ G _ g => sq_of g.2.2.1) ?_ ?_
    · rintro i x σ _ G hi ⟨⟨y5, y6, y7, y8, rfl⟩, oG, gn, L, c2, U, en, hB, hS, bd, ad, ap, an, hf, S2, c20, c21⟩ ⟨rfl, ex⟩
      obtain ⟨n, eni, rfl⟩ := ints_at ex
      have mnn := bns n (List.mem_of_getElem? eni)
      have mn9 : n ≤ 199 := by omega
      have i15 : i < 15 := by
        have := (List.getElem?_eq_some_iff.mp eni).1
        omega
      have nk := kd_ne S2 U
      have lenL' : L.length = i := by
        rw [← nums_len, en, List.length_take]
        have := (List.getElem?_eq_some_iff.mp eni).1
        omega
      have nin : n ∉ numsL L := by
        rw [en]
        have s := split_at eni
        rw [s, List.nodup_append] at ndn
        exact fun m => ndn.2.2 n m n List.mem_cons_self rfl
      have nkm : nm ≠ kd := fun z => by rw [z, U.top] at gn; cases gn
      -- from the parent on
      have rst : ∀ (u c3 : Int) (G2 : Hp), Off p H G2 → G2 nm = some (.lst (ns.map V.int)) → LkU G2 kd L → Src G2 p c3 → c ≤ c3 → c3 ≤ c + 20 + 4 * i + 1 → (L = [] → u = 1) → (L ≠ [] → u ∈ numsL L) → ∀ D : Ends, _ → ∀ y : Option V, _ := fun u c3 G2 o2 gn2 U2 S3 c30 c31 hu1 hu2 D (hD : ∀ y5 y6 y7 y8 G', Off p H G' → G' nm = some (.lst (ns.map V.int)) → (∃ (L : List Ent) (c2 : Int), LkU G' kd L ∧ numsL L = ns.take (i + 1) ∧ (i + 1 ≠ 0 → Born (rowsL L)) ∧ (md = 0 → Sess (famL L) (numsL L)) ∧ Bd L ∧ AdN L ∧ Apt p L ∧ Apt nm L ∧ (∀ e ∈ L, H e.2 = none) ∧ Src G' p c2 ∧ c ≤ c2 ∧ c2 ≤ c + 20 + 4 * ((i + 1 : Nat) : Int)) → D.nx [some (.ref p), some (.int md), some (.int mo), some (.ref nm), some (.ref kd), y5, y6, y7, y8] G') (y : Option V) =>
        (show tSeq (tAsg (tLst (tCons (tVar 6) (tCons (tC (.int 0)) (tCons (tC (.int 0)) (tCons (tOrV (tOp rEq (tCall spTake [] E0 (tCons (tVar 0) (tCons (tOp (rI0 fun i j => .int (i + j)) (tC (.int 2)) (tVar 1)) tNil))) (tC (.int 0))) (tAndV (tOp rEq (tVar 1) (tC (.int 2))) (tOp rEqNil (tVar 4) tDNewK))) (tCons (tC (.str "runs")) tNil)))))) (gName 7))
          (tSeq (sDPut (tVar 4) (tVar 5) (tVar 7)) (tAsg (tCall spSession [] E0 (tCons (tVar 0) (tCons (tVar 4) (tCons (tVar 3) (tCons (tVar 5) (tCons (tVar 1) tNil)))))) (gSub (tVar 7) (tC (.int 1)) rSetL)))
          D [some (.ref p), some (.int md), some (.int mo), some (.ref nm), some (.ref kd), some (.int n), some (.int u), y, y8] G2 from by
          -- a row is laid
          have lay : ∀ (b : Bool) (c4 : Int) (G3 : Hp), Off p H G3 → G3 nm = some (.lst (ns.map V.int)) → LkU G3 kd L → Src G3 p c4 → c ≤ c4 → c4 ≤ c + 20 + 4 * i + 2 → (5 ≤ sizeLine ∧ ∀ ra, G3 ra = none → tSeq (sDPut (tVar 4) (tVar 5) (tVar 7)) (tAsg (tCall spSession [] E0 (tCons (tVar 0) (tCons (tVar 4) (tCons (tVar 3) (tCons (tVar 5) (tCons (tVar 1) tNil)))))) (gSub (tVar 7) (tC (.int 1)) rSetL)) D [some (.ref p), some (.int md), some (.int mo), some (.ref nm), some (.ref kd), some (.int n), some (.int u), some (.ref ra), y8] (upd G3 ra (.lst [.int u, .int 0, .int 0, .bl b, .str "runs"]))) := by
            intro b c4 G3 o3 gn3 U3 S4 c40 c41
            refine ⟨by decide, fun ra nra => ?_⟩
            have eL := Ex.new (o := .lst [.int u, .int 0, .int 0, .bl b, .str "runs"]) nra
            have gra : upd G3 ra (.lst [.int u, .int 0, .int 0, .bl b, .str "runs"]) ra = some (.lst (row5 ⟨n, u, 0, 0, b, 0⟩)) := upd_same
            have prap : ra ≠ p := fun z => by
              obtain ⟨a, b, h, _⟩ := S4
              rw [z, h] at nra
              cases nra
            have pran : ra ≠ nm := fun z => by rw [z, gn3] at nra; cases nra
            have Hra : H ra = none := by
              cases hk : H ra with
              | none => rfl
              | some o => rw [o3 _ _ prap hk] at nra; cases nra
            have nlr : ∀ e ∈ L, e.2 ≠ ra := fun e m z => by
              have := U3.rows e m
              rw [z, nra] at this
              cases this
            have o4 := o3.ex eL
            have U4 := U3.mono eL
            have S5 := S4.ex eL
            have gn4 := eL _ _ gn3
            generalize upd G3 ra (.lst [.int u, .int 0, .int 0, .bl b, .str "runs"]) = G4 at gra o4 U4 S5 gn4 ⊢
            refine q_dput (ev_var rfl) (ev_var rfl) (ev_var rfl) U4.top (by unfold tbl; rw [List.length_map]; omega) fun G5 e5 => ?_
            have U5 := (U4.mono e5).add (r := ⟨n, u, 0, 0, b, 0⟩) nin (e5 _ _ gra)
            have o5 : Off p H (upd G5 kd (.dK (putK (tbl L) (Sum.inl n) (.ref ra)))) := fun b o nb h => by rw [upd_ne (fun z => by rw [z, nkH] at h; cases h)]; exact e5 _ _ (o4 b o nb h)
            have S6 : Src (upd G5 kd (.dK (putK (tbl L) (Sum.inl n) (.ref ra)))) p c4 := (S5.ex e5).off nk
            have gn5 : upd G5 kd (.dK (putK (tbl L) (Sum.inl n) (.ref ra))) nm = some (.lst (ns.map V.int)) := (upd_ne nkm).trans (e5 _ _ gn4)
            generalize upd G5 kd (.dK (putK (tbl L) (Sum.inl n) (.ref ra))) = G6 at U5 o5 S6 gn5 ⊢
            have B5 : Born (rowsL (L ++ [((⟨n, u, 0, 0, b, 0⟩ : Rw), ra)])) := by
              by_cases z : L = []
              · rw [z]
                exact one_born (r := ⟨n, u, 0, 0, b, 0⟩) mnn.1 (hu1 z)
              · exact add_born (r := ⟨n, u, 0, 0, b, 0⟩) (hB (fun w => z (List.length_eq_zero_iff.mp (by omega)))) nin mnn.1 (hu2 z) (by omega)
            have bd5 : Bd (L ++ [((⟨n, u, 0, 0, b, 0⟩ : Rw), ra)]) := fun e m => by
              rcases List.mem_append.mp m with m | m
              · exact bd e m
              · rw [List.mem_singleton.mp m]
                exact ⟨mn9, show (0 : Int) ≤ 0 by decide, show (0 : Int) ≤ 300 by decide, show (0 : Int) ≤ 0 by decide, show (0 : Int) ≤ 300 by decide⟩
            have ap5 : ∀ {a : Addr}, Apt a L → ra ≠ a → Apt a (L ++ [((⟨n, u, 0, 0, b, 0⟩ : Rw), ra)]) := fun h1 h2 e m => by
              rcases List.mem_append.mp m with m | m
              · exact h1 e m
              · rw [List.mem_singleton.mp m]; exact h2
            have ad5 : AdN (L ++ [((⟨n, u, 0, 0, b, 0⟩ : Rw), ra)]) := by
              unfold AdN
              rw [List.map_append]
              refine List.nodup_append.mpr ⟨ad, by simp, fun a ma a' ma' z => ?_⟩
              obtain ⟨e, me, rfl⟩ := List.mem_map.mp ma
              have : a' = ra := by simpa using ma'
              exact nlr e me (z.trans this)
            have me5 : ((⟨n, u, 0, 0, b, 0⟩ : Rw), ra) ∈ L ++ [((⟨n, u, 0, 0, b, 0⟩ : Rw), ra)] := List.mem_append_right _ (List.mem_singleton.mpr rfl)
            refine ⟨_, rfl, _, rfl, _, rfl, _, rfl, _, rfl, p, kd, nm, c4, n, md, _, ns, rfl, S6, by omega, U5, B5, ap5 ap prap, nmp, gn5, nbnd, by omega, key_in B5 me5, bd5, fun sv c5 G7 sv0 sv1 svd o7 S7 c50 c51 => ?_⟩
            have U7 := U5.off o7 nk (ap5 ap prap)
            refine ⟨_, rfl, ra, _, _, 1, rfl, rfl, U7.rows _ me5, rfl, ?_⟩
            have U8 := U7.set B5 ad5 me5 (r := ⟨n, u, sv, 0, b, 0⟩) rfl
            refine hD _ _ _ _ _ (fun b' o nb h => ?_) ?_ ⟨_, c5, U8, ?_, fun _ => set_born B5 fun e m z => ?_, fun h0 => ?_, set_bd bd5 ⟨mn9, sv0, sv1, show (0 : Int) ≤ 0 by decide, show (0 : Int) ≤ 300 by decide⟩, by unfold AdN; rw [set_adr]; exact ad5, set_apt (ap5 ap prap), set_apt (ap5 an pran), fun e m => ?_, S7.off prap, by omega, by omega⟩
            · rw [upd_ne (fun z => by rw [z, Hra] at h; cases h)]
              exact o7 _ _ nb (o5 _ _ nb h)
            · rw [upd_ne (fun z => pran z.symm)]
              exact o7 _ _ nmp gn5
            · rw [set_nums, List.take_add_one, eni]
              unfold numsL
              rw [List.map_append]
              show numsL L ++ [n] = _
              rw [en]
              rfl
            · rcases List.mem_append.mp m with m | m
              · exact absurd (List.mem_map_of_mem (f := fun e : Ent => e.1.n) m) (by rw [z]; exact nin)
              · rw [List.mem_singleton.mp m]
            · have es : setL (L ++ [((⟨n, u, 0, 0, b, 0⟩ : Rw), ra)]) ⟨n, u, sv, 0, b, 0⟩ = L ++ [((⟨n, u, sv, 0, b, 0⟩ : Rw), ra)] := add_set rfl nin
              have B9 : Born (rowsL (L ++ [((⟨n, u, sv, 0, b, 0⟩ : Rw), ra)])) := by
                rw [← es]
                exact set_born B5 fun e m z => by
                  rcases List.mem_append.mp m with m | m
                  · exact absurd (List.mem_map_of_mem (f := fun e : Ent => e.1.n) m) (by rw [z]; exact nin)
                  · rw [List.mem_singleton.mp m]
              rw [es]
              have en9 : numsL (L ++ [((⟨n, u, sv, 0, b, 0⟩ : Rw), ra)]) = numsL L ++ [n] := by unfold numsL; rw [List.map_append]; rfl
              rw [en9]
              refine Sess.add (r0 := ⟨n, u, 0, 0, b, 0⟩) (fun z => hB (fun w => z (List.length_eq_zero_iff.mp (by omega)))) B5 B9 rfl rfl rfl rfl mnn nin ?_ (svd h0) (hS h0)
              by_cases z : L = []
              · exact .inl (hu1 z)
              · exact .inr (hu2 z)
            · obtain ⟨e', m', rfl⟩ := List.mem_map.mp m
              have h' : H e'.2 = none := by
                rcases List.mem_append.mp m' with m' | m'
                · exact hf e' m'
                · rw [List.mem_singleton.mp m']; exact Hra
              split <;> exact h'
          refine ⟨_, rfl, _, rfl, _, rfl, _, _, rfl, rfl, p, c3, 2 + md, rfl, S3, by omega, by omega, by omega, fun r c4 zs r0 r1 c40 c41 S4 => ?_⟩
          have o3 : Off p H (upd G2 p (.lst zs)) := fun b o nb h => (upd_ne nb).trans (o2 b o nb h)
          have U3 := U2.off (fun b o nb h => (upd_ne nb).trans h : Off p G2 (upd G2 p (.lst zs))) nk ap
          have gn3 : upd G2 p (.lst zs) nm = some (.lst (ns.map V.int)) := (upd_ne nmp).trans gn2
          generalize upd G2 p (.lst zs) = G3 at S4 o3 U3 gn3 ⊢
          refine ⟨rfl, _, rfl, ?_⟩
          cases hz : decide (V.int r = V.int 0) with
          | true => exact iteT (lay true c4 G3 o3 gn3 U3 S4 (by omega) (by omega))
          | false =>
            have tail : Ev (tAndV (tOp rEq (tVar 1) (tC (.int 2))) (tOp rEqNil (tVar 4) tDNewK)) [some (.ref p), some (.int md), some (.int mo), some (.ref nm), some (.ref kd), some (.int n), some (.int u), y, y8] G3 (.bl (decide (V.int md = V.int 2) && (tbl L).isEmpty)) := ev_andV (ev_op (ev_var rfl) ev_c (rv_eq rfl)) (fun _ => ev_eqNil (ev_var rfl) U3.top)
            exact iteF (tail G3 (Ex.refl G3) _ fun G4 e4 => lay _ c4 G4 (o3.ex e4) (e4 _ _ gn3) (U3.mono e4) (S4.ex e4) (by omega) (by omega)))
      -- the parent
      have nxt := fun y5 y6 y7 y8 G' (a1 : Off p H G') (a2 : G' nm = some (.lst (ns.map V.int))) a3 => (⟨⟨y5, y6, y7, y8, rfl⟩, a1, a2, a3⟩ : (∃ y5' y6' y7' y8', [some (V.ref p), some (.int md), some (.int mo), some (.ref nm), some (.ref kd), y5, y6, y7, y8] = [some (.ref p), some (.int md), some (.int mo), some (.ref nm), some (.ref kd), y5', y6', y7', y8']) ∧ Off p H G' ∧ G' nm = some (.lst (ns.map V.int)) ∧
        ∃ (L : List Ent) (c2 : Int), LkU G' kd L ∧ numsL L = ns.take (i + 1) ∧ (i + 1 ≠ 0 → Born (rowsL L)) ∧ (md = 0 → Sess (famL L) (numsL L)) ∧ Bd L ∧ AdN L ∧ Apt p L ∧ Apt nm L ∧ (∀ e ∈ L, H e.2 = none) ∧ Src G' p c2 ∧ c ≤ c2 ∧ c2 ≤ c + 20 + 4 * ((i + 1 : Nat) : Int))
      have tst : EvT (tTest (tOp rNeNil (tVar 4) tDNewK)) [some (.ref p), some (.int md), some (.int mo), some (.ref nm), some (.ref kd), some (.int n), y6, y7, y8] G (!(tbl L).isEmpty) := et_test (ev_neNil (ev_var rfl) U.top)
      refine tst G (Ex.refl G) _ fun G1 e1 => ?_
      by_cases zL : L = []
      · have : (!(tbl L).isEmpty) = false := by rw [zL]; rfl
        rw [this]
        exact iteF (rst 1 c2 G1 (oG.ex e1) (e1 _ _ gn) (U.mono e1) (S2.ex e1) c20 (by omega) (fun _ => rfl) (fun z => absurd zL z) _ (fun y5 y6 y7 y8 G' a1 a2 a3 => nxt y5 y6 y7 y8 G' a1 a2 a3) _)
      · have : (!(tbl L).isEmpty) = true := by cases L with | nil => exact absurd rfl zL | cons a l => rfl
        rw [this]
        have i0 : i ≠ 0 := fun z => zL (List.length_eq_zero_iff.mp (by omega))
        have B := hB i0
        have U1 := U.mono e1
        have g0 : G1 nm = some (.lst (.int n0 :: rest.map V.int)) := by
          have := e1 _ _ gn
          rw [ens] at this
          exact this
        have few : (keys (famL L)).length ≤ 20 := by rw [len_keys]; exact (wfL B).few
        have cat := el_cat (σ := [some (.ref p), some (.int md), some (.int mo), some (.ref nm), some (.ref kd), some (.int n), y6, y7, y8]) (lk_sorted B U1.lk (ev_var (i := 4) rfl)) (el_rep (el_lst (ea_cons (ev_op (ev_var (i := 3) rfl) ev_c (rv_ix0 (K := K) (sq_of g0))) ea_nil) (by show 1 ≤ 100000; omega)) (ev_var (i := 1) (v := .int md) rfl) md0 (by omega) (by show 1 ≤ 100; omega)) (by
          rw [List.length_map, flat_rep, List.length_map, List.length_replicate]
          omega)
        refine iteT ⟨_, rfl, cat G1 (Ex.refl G1) _ fun l G2 nl e2 gl => ?_⟩
        rw [flat_rep, ← List.map_append] at gl
        have pl : l ≠ p := fun z => by
          obtain ⟨a, b, h, _⟩ := S2.ex e1
          rw [z, h] at nl
          cases nl
        refine ⟨p, l, c2, _, rfl, (S2.ex e1).ex e2, by omega, pl, gl, ?_, by rw [List.length_map, List.length_append, List.length_replicate]; omega, fun v c' zs mv c0 c1' S' => ?_⟩
        · rw [List.length_map, List.length_append]
          obtain ⟨root, mr, _⟩ := (wfL B).root
          have := List.length_pos_of_mem mr
          omega
        · obtain ⟨u, mu, rfl⟩ := List.mem_map.mp mv
          have muL : u ∈ numsL L := by
            rcases List.mem_append.mp mu with mu | mu
            · exact (num_iff B).mpr mu
            · rw [(List.mem_replicate.mp mu).2, en, ens]
              cases i with
              | zero => exact absurd rfl i0
              | succ i => exact List.mem_cons_self
          have oX : Off p G1 (upd G2 p (.lst zs)) := fun b o nb h => (upd_ne nb).trans (e2 _ _ h)
          exact rst u c' _ ((oG.ex e1).trans oX) (oX _ _ nmp (e1 _ _ gn)) (U1.off oX nk ap) S' (by omega) (by omega) (fun z => absurd z zL) (fun _ => muL) _ (fun y5 y6 y7 y8 G' a1 a2 a3 => nxt y5 y6 y7 y8 G' a1 a2 a3) _
    · rintro σ G ⟨⟨y5, y6, y7, y8, rfl⟩, oG, gn, L, c2, U, en, hB, hS, bd, ad, ap, an, hf, S2, c20, c21⟩
      have ln : (ns.map V.int).length = ns.length := List.length_map _
      rw [ln, List.take_length] at en
      have B := hB (by rw [ln]; omega)
      rw [ln] at c21
      refine ⟨_, rfl, nm, rfl, ⟨_, sq_of gn⟩, ?_⟩
      refine for_it (walk_list (K := K) (a := nm) (xs := ns.map V.int)) (fun i σ G => (∃ y5 y6 y7 y8, σ = [some (.ref p), some (.int md), some (.int mo), some (.ref nm), some (.ref kd), y5, y6, y7, y8]) ∧ Off p H G ∧ G nm = some (.lst (ns.map V.int)) ∧
          ∃ (L : List Ent) (c2 : Int), LkU G kd L ∧ numsL L = ns ∧ Born (rowsL L) ∧ (md = 0 → Sess (famL L) ns ∧ Gr (famL L) (ns.take i)) ∧ Bd L ∧ AdN L ∧ Apt p L ∧ Apt nm L ∧ (∀ e ∈ L, H e.2 = none) ∧ Src G p c2 ∧ c ≤ c2 ∧ c2 ≤ c + 80 + 4 * i)
        ⟨⟨_, _, _, _, rfl⟩, oG, gn, L, c2, U, en, B, (fun h0 => ⟨by have := hS h0; rw [en] at this; exact this, fun n m => nomatch m⟩), bd, ad, ap, an, hf, S2, c20, by omega⟩ (fun i σ G _ g => sq_of g.2.2.1) ?_ ?_
      · clear hB hS B bd ad ap an hf S2 c20 c21 U en gn oG
        clear L c2
        rintro i x σ _ G hi ⟨⟨y5, y6, y7, y8, rfl⟩, oG, gn, L, c2, U, en, B, hS, bd, ad, ap, an, hf, S2, c20, c21⟩ ⟨rfl, ex⟩
        obtain ⟨n, eni, rfl⟩ := ints_at ex
        have i15 : i < 15 := by
          have := (List.getElem?_eq_some_iff.mp eni).1
          omega
        have nk := kd_ne S2 U
        obtain ⟨e, me, hen⟩ := List.mem_map.mp (show n ∈ numsL L by rw [en]; exact List.mem_of_getElem? eni)
        have hen' : e.1.n = n := hen
        subst hen'
        have eb := bd e me
        refine q_asg (ev_dgetR (ev_var rfl) (ev_var rfl) (.inl U.top) (val_tbl B me)) fun G1 e1 => ?_
        have U1 := U.mono e1
        have S3 := S2.ex e1
        refine ⟨_, rfl, _, rfl, _, rfl, _, rfl, p, kd, c2, e.1.n, md, L, rfl, S3, by omega, U1, B, ap, key_in B me, bd, fun gv c3 G2 gv0 gv1 gvd o2 S4 c30 c31 => ?_⟩
        have U2 := U1.off o2 nk ap
        refine ⟨_, rfl, e.2, _, _, 2, rfl, rfl, U2.rows e me, rfl, ?_⟩
        have U3 := U2.set B ad me (r := { e.1 with g := gv }) rfl
        have B3 : Born (rowsL (setL L { e.1 with g := gv })) := set_born B fun x mx z => by
          have i1 := val_tbl B mx
          have i2 := val_tbl B me
          have z' : x.1.n = e.1.n := z
          rw [z', i2] at i1
          rw [adr_inj ad mx me (by injection (Option.some.inj i1) with h; exact h.symm)]
        have uniq : ∀ x ∈ L, x.1.n = e.1.n → x = e := fun x mx z => by
          have i1 := val_tbl B mx
          have i2 := val_tbl B me
          rw [z, i2] at i1
          exact adr_inj ad mx me (by injection (Option.some.inj i1) with h; exact h.symm)
        have tk : ns.take (i + 1) = ns.take i ++ [e.1.n] := by rw [List.take_add_one, eni]; rfl
        have nt : e.1.n ∉ ns.take i := fun m => by
          have s := split_at eni
          rw [s, List.nodup_append] at ndn
          exact ndn.2.2 _ m _ List.mem_cons_self rfl
        have hS3 : md = 0 → Sess (famL (setL L { e.1 with g := gv })) ns ∧ Gr (famL (setL L { e.1 with g := gv })) (ns.take (i + 1)) := fun h0 => by
          refine ⟨Sess.set B B3 (fun n => by rw [← en]; exact num_iff B) (fun x mx z => ?_) (hS h0).1, ?_⟩
          · rw [uniq x mx z]
            exact ⟨rfl, rfl, .inl rfl⟩
          · rw [tk]
            exact Gr.step (r := { e.1 with g := gv }) B B3 (fun x mx z => by rw [uniq x mx z]) (key_in B me) nt (gvd h0) (hS h0).2
        have ad3 : AdN (setL L { e.1 with g := gv }) := by unfold AdN; rw [set_adr]; exact ad
        have me3 : (({ e.1 with g := gv } : Rw), e.2) ∈ setL L { e.1 with g := gv } := List.mem_map.mpr ⟨e, me, if_pos rfl⟩
        have bd3 : Bd (setL L { e.1 with g := gv }) := set_bd bd ⟨eb.1, eb.2.1, eb.2.2.1, gv0, gv1⟩
        have ap3 : Apt p (setL L { e.1 with g := gv }) := set_apt ap
        have an3 : Apt nm (setL L { e.1 with g := gv }) := set_apt an
        have He := hf e me
        have pe := ap e me
        have ne := an e me
        have o3 : Off p H (upd G2 e.2 (.lst (row5 { e.1 with g := gv }))) := fun b o nb h => by
          rw [upd_ne (fun z => by rw [z, He] at h; cases h)]
          exact o2 _ _ nb (e1 _ _ (oG b o nb h))
        have gn3 : upd G2 e.2 (.lst (row5 { e.1 with g := gv })) nm = some (.lst (ns.map V.int)) := (upd_ne ne.symm).trans (o2 _ _ nmp (e1 _ _ gn))
        have S5 : Src (upd G2 e.2 (.lst (row5 { e.1 with g := gv }))) p c3 := S4.off pe
        have en3 : numsL (setL L { e.1 with g := gv }) = ns := by rw [set_nums]; exact en
        have hf3 : ∀ x ∈ setL L { e.1 with g := gv }, H x.2 = none := fun x mx => by
          obtain ⟨y, my, rfl⟩ := List.mem_map.mp mx
          have := hf y my
          split <;> exact this
        dsimp only
        have hrow : (row5 e.1).set 2 (V.int gv) = row5 { e.1 with g := gv } := rfl
        rw [hrow]
        generalize upd G2 e.2 (.lst (row5 { e.1 with g := gv })) = G3 at U3 o3 gn3 S5 ⊢
        generalize setL L { e.1 with g := gv } = L3 at U3 B3 ad3 me3 bd3 ap3 an3 en3 hf3 hS3
        generalize hr1 : ({ e.1 with g := gv } : Rw) = r1 at me3
        have r1b : r1.n ≤ 199 ∧ 0 ≤ r1.s ∧ r1.s ≤ 300 ∧ 0 ≤ r1.g ∧ r1.g ≤ 300 := bd3 _ me3
        have r1n : r1.n = e.1.n := by rw [← hr1]
        -- a row as it is in the end
        have fin : ∀ (r2 : Rw) (c4 : Int) (G4 : Hp), r2.n = r1.n → r2.up = r1.up → r2.s = r1.s → r2.g = r1.g → (r1.ad = r2.ad ∨ ∀ m ∈ keys (famL L3), up (famL L3) m ≠ r1.n) → Off p H G4 → G4 nm = some (.lst (ns.map V.int)) → LkU G4 kd L3 → Src G4 p c4 → c ≤ c4 → c4 ≤ c + 80 + 4 * i + 4 → ∀ y5 y6 y7 y8,
            (∃ y5' y6' y7' y8', [some (V.ref p), some (.int md), some (.int mo), some (.ref nm), some (.ref kd), y5, y6, y7, y8] = [some (.ref p), some (.int md), some (.int mo), some (.ref nm), some (.ref kd), y5', y6', y7', y8']) ∧ Off p H (upd G4 e.2 (.lst (row5 r2))) ∧ upd G4 e.2 (.lst (row5 r2)) nm = some (.lst (ns.map V.int)) ∧
            ∃ (L : List Ent) (c2 : Int), LkU (upd G4 e.2 (.lst (row5 r2))) kd L ∧ numsL L = ns ∧ Born (rowsL L) ∧ (md = 0 → Sess (famL L) ns ∧ Gr (famL L) (ns.take (i + 1))) ∧ Bd L ∧ AdN L ∧ Apt p L ∧ Apt nm L ∧ (∀ e ∈ L, H e.2 = none) ∧ Src (upd G4 e.2 (.lst (row5 r2))) p c2 ∧ c ≤ c2 ∧ c2 ≤ c + 80 + 4 * ((i + 1 : Nat) : Int) := by
          intro r2 c4 G4 z1 z2 z3 z4 z5 o4 gn4 U4 S6 c40 c41 y5 y6 y7 y8
          have un3 : ∀ x ∈ L3, x.1.n = r2.n → x = (r1, e.2) := fun x mx z => by
            have i1 := val_tbl B3 mx
            have i2 := val_tbl B3 me3
            rw [z, z1, i2] at i1
            exact adr_inj ad3 mx me3 (by injection (Option.some.inj i1) with h; exact h.symm)
          have B4 : Born (rowsL (setL L3 r2)) := set_born B3 fun x mx z => by rw [un3 x mx z, z2]
          refine ⟨⟨_, _, _, _, rfl⟩, fun b o nb h => ?_, (upd_ne ne.symm).trans gn4, setL L3 r2, c4, U4.set (e := (r1, e.2)) B3 ad3 me3 z1, by rw [set_nums]; exact en3, B4, fun h0 => ⟨Sess.set B3 B4 (fun n => by rw [← en3]; exact num_iff B3) (fun x mx z => ?_) (hS3 h0).1, Gr.set B3 B4 (fun x mx z => ?_) (hS3 h0).2⟩, set_bd bd3 ⟨by rw [z1]; exact r1b.1, by rw [z3]; exact r1b.2.1, by rw [z3]; exact r1b.2.2.1, by rw [z4]; exact r1b.2.2.2.1, by rw [z4]; exact r1b.2.2.2.2⟩, by unfold AdN; rw [set_adr]; exact ad3, set_apt ap3, set_apt an3, fun x mx => ?_, S6.off pe, c40, by omega⟩
          · rw [upd_ne (fun z => by rw [z, He] at h; cases h)]
            exact o4 b o nb h
          · rw [un3 x mx z]
            refine ⟨z2.symm, z3.symm, ?_⟩
            rw [z1]
            exact z5
          · rw [un3 x mx z]
            exact ⟨z3.symm, z4.symm⟩
          · obtain ⟨y, my, rfl⟩ := List.mem_map.mp mx
            have := hf3 y my
            split <;> exact this
        have same : ∀ (c4 : Int) (G4 : Hp), Off p H G4 → G4 nm = some (.lst (ns.map V.int)) → LkU G4 kd L3 → Src G4 p c4 → c ≤ c4 → c4 ≤ c + 80 + 4 * i + 4 → ∀ y5 y6 y7 y8,
            (∃ y5' y6' y7' y8', [some (V.ref p), some (.int md), some (.int mo), some (.ref nm), some (.ref kd), y5, y6, y7, y8] = [some (.ref p), some (.int md), some (.int mo), some (.ref nm), some (.ref kd), y5', y6', y7', y8']) ∧ Off p H G4 ∧ G4 nm = some (.lst (ns.map V.int)) ∧
            ∃ (L : List Ent) (c2 : Int), LkU G4 kd L ∧ numsL L = ns ∧ Born (rowsL L) ∧ (md = 0 → Sess (famL L) ns ∧ Gr (famL L) (ns.take (i + 1))) ∧ Bd L ∧ AdN L ∧ Apt p L ∧ Apt nm L ∧ (∀ e ∈ L, H e.2 = none) ∧ Src G4 p c2 ∧ c ≤ c2 ∧ c2 ≤ c + 80 + 4 * ((i + 1 : Nat) : Int) :=
          fun c4 G4 o4 gn4 U4 S6 c40 c41 y5 y6 y7 y8 => ⟨⟨_, _, _, _, rfl⟩, o4, gn4, L3, c4, U4, en3, B3, hS3, bd3, ad3, ap3, an3, hf3, S6, c40, by omega⟩
        -- elif
        have elif : ∀ (c4 : Int) (G4 : Hp), Off p H G4 → G4 nm = some (.lst (ns.map V.int)) → LkU G4 kd L3 → Src G4 p c4 → c ≤ c4 → c4 ≤ c + 80 + 4 * i + 3 → ∀ D : Ends, (∀ σ G, D.nx σ G = ((∃ y5 y6 y7 y8, σ = [some (.ref p), some (.int md), some (.int mo), some (.ref nm), some (.ref kd), y5, y6, y7, y8]) ∧ Off p H G ∧ G nm = some (.lst (ns.map V.int)) ∧
            ∃ (L : List Ent) (c2 : Int), LkU G kd L ∧ numsL L = ns ∧ Born (rowsL L) ∧ (md = 0 → Sess (famL L) ns ∧ Gr (famL L) (ns.take (i + 1))) ∧ Bd L ∧ AdN L ∧ Apt p L ∧ Apt nm L ∧ (∀ e ∈ L, H e.2 = none) ∧ Src G p c2 ∧ c ≤ c2 ∧ c2 ≤ c + 80 + 4 * ((i + 1 : Nat) : Int))) →
            tIfS (tTest (tOp rEq (tCall spTake [] E0 (tCons (tVar 0) (tCons (tC (.int 6)) tNil))) (tC (.int 0)))) (tAsg (tC (.str "stopped")) (gSub (tVar 7) (tC (.int 4)) rSetL)) tNext D [some (.ref p), some (.int md), some (.int mo), some (.ref nm), some (.ref kd), some (.int e.1.n), y6, some (.ref e.2), y8] G4 := by
          intro c4 G4 o4 gn4 U4 S6 c40 c41 D hD
          refine ⟨_, rfl, p, c4, 6, rfl, S6, by omega, by decide, by decide, fun r c5 zs r0 r1' c50 c51 S7 => ⟨rfl, _, rfl, ?_⟩⟩
          have oX : Off p G4 (upd G4 p (.lst zs)) := fun b o nb h => (upd_ne nb).trans h
          have U5 := U4.off oX nk ap3
          refine ite2 (fun _ => ?_) (fun _ => ?_)
          · refine ⟨_, rfl, e.2, _, _, 4, rfl, rfl, U5.rows (r1, e.2) me3, rfl, ?_⟩
            show D.nx _ _
            rw [hD]
            exact fin { r1 with w := 2 } c5 _ rfl rfl rfl rfl (.inl rfl) (o4.trans oX) (oX _ _ nmp gn4) U5 S7 (by omega) (by omega) _ _ _ _
          · show D.nx _ _
            rw [hD]
            exact same c5 _ (o4.trans oX) (oX _ _ nmp gn4) U5 S7 (by omega) (by omega) _ _ _ _
        -- if
        have lk1 := el_lockK (K := K) (t := tYes) (te := tKin K 4 8 0) (σ := [some (.ref p), some (.int md), some (.int mo), some (.ref nm), some (.ref kd), some (.int e.1.n), y6, some (.ref e.2), y8]) (i0 := 4) (j := 8) (vs := [8]) U3 (lenL B3) rfl (fun n => true) (fun n => .int (up (famL L3) n)) (fun x => rfl)
          (fun n m G N => et_yes) (fun n m _ G N => lk_up B3 N (ev_var rfl) (ev_var rfl) (num_in B3 m))
        have e5 : ((numsL L3).filter fun n => true).map (fun n => V.int (up (famL L3) n)) = ((numsL L3).map (up (famL L3))).map V.int := by rw [Evl.filter_all, List.map_map]; rfl
        rw [e5] at lk1
        have t1 := et_test (ev_opL (r := rIn K true) (ev_var (σ := [some (.ref p), some (.int md), some (.int mo), some (.ref nm), some (.ref kd), some (.int e.1.n), y6, some (.ref e.2), y8]) (H := G3) (i := 5) (v := .int e.1.n) rfl) lk1 (fun p H4 hp e4 => rv_niI (sq_of hp)))
        refine t1 G3 (Ex.refl G3) _ fun G4 e4 => ?_
        have U4 := U3.mono e4
        cases hb : (!decide (e.1.n ∈ (numsL L3).map (up (famL L3)))) with
        | false => exact iteF (iteF (elif c3 G4 (o3.ex e4) (e4 _ _ gn3) U4 (S5.ex e4) (by omega) (by omega) _ (fun _ _ => rfl)))
        | true =>
          have noc : e.1.n ∉ (numsL L3).map (up (famL L3)) := by simpa using hb
          refine iteT ?_
          have t2 := et_test (ev_op (r := rNe) (ev_op (ev_var (σ := [some (.ref p), some (.int md), some (.int mo), some (.ref nm), some (.ref kd), some (.int e.1.n), y6, some (.ref e.2), y8]) (H := G4) (i := 7) (v := .ref e.2) rfl) ev_c (rv_ixL (K := K) (sq_of (U4.rows (r1, e.2) me3)) (atI_nat (j := 0) rfl))) (ev_c (v := .int 1)) (rv_ne rfl))
          refine t2 G4 (Ex.refl G4) _ fun G5 e5 => ?_
          have U5 := U4.mono e5
          have e45 := e4.trans e5
          cases hb2 : (!decide (V.int r1.up = V.int 1)) with
          | false => exact iteF (iteF (elif c3 G5 (o3.ex e45) (e45 _ _ gn3) U5 (S5.ex e45) (by omega) (by omega) _ (fun _ _ => rfl)))
          | true =>
            refine iteT ⟨_, rfl, p, c3, 3, rfl, S5.ex e45, by omega, by decide, by decide, fun r c5 zs r0 r1' c50 c51 S7 => ⟨rfl, _, rfl, ?_⟩⟩
            have oX : Off p G5 (upd G5 p (.lst zs)) := fun b o nb h => (upd_ne nb).trans h
            have U6 := U5.off oX nk ap3
            have o6 := (o3.ex e45).trans oX
            have gn6 := oX _ _ nmp (e45 _ _ gn3)
            generalize upd G5 p (.lst zs) = G6 at S7 U6 o6 gn6 ⊢
            refine ite2 (fun _ => ?_) (fun _ => ?_)
            · refine ⟨by show 2 ≤ sizeLine; decide, fun t nt => ⟨t, _, rfl, .inl (.inl upd_same), rfl, _, _, rfl, ?_⟩⟩
              have eT := Ex.new (o := .tup [.bl false, .str "ended"]) nt
              have U7 := U6.mono eT
              have o7 := o6.ex eT
              have gn7 := eT _ _ gn6
              have S8 := S7.ex eT
              generalize upd G6 t (.tup [.bl false, .str "ended"]) = G7 at U7 o7 gn7 S8 ⊢
              refine ⟨_, rfl, e.2, _, _, 3, rfl, rfl, U7.rows (r1, e.2) me3, rfl, _, _, rfl, _, rfl, e.2, _, _, 4, rfl, rfl, upd_same, rfl, rfl, ?_⟩
              have tw : upd (upd G7 e.2 (.lst ((row5 r1).set 3 (.bl false)))) e.2 (.lst (((row5 r1).set 3 (.bl false)).set 4 (.str "ended"))) = upd G7 e.2 (.lst (row5 { r1 with ad := false, w := 1 })) := by
                funext b
                by_cases z : b = e.2
                · rw [z, upd_same, upd_same]; rfl
                · rw [upd_ne z, upd_ne z, upd_ne z]
              refine (show _ ∧ _ from ?_)
              rw [tw]
              exact fin { r1 with ad := false, w := 1 } c5 G7 rfl rfl rfl rfl (.inr fun m mm z => noc (by rw [← z.trans r1n]; exact List.mem_map_of_mem ((num_iff B3).mpr mm))) o7 gn7 U7 S8 (by omega) (by omega) _ _ _ _
            · exact elif c5 G6 o6 gn6 U6 S7 (by omega) (by omega) _ (fun _ _ => rfl)
      · rintro σ G ⟨⟨y5, y6, y7, y8, rfl⟩, oG, gn, L, c2, U, en, B, hS, bd, ad, ap, an, hf, S2, c20, c21⟩
        rw [ln] at c21
        rw [ln, List.take_length] at hS
        refine ⟨_, rfl, q kd L c2 G oG U B bd ap (fun h0 => ?_) S2 c20 (by omega)⟩
        have hS := hS h0
        rw [← en] at hS
        exact free_fam B hS.1 hS.2
end
end KB
set_option Elab.async false
set_option linter.all false
set_option maxRecDepth 100000
set_option maxHeartbeats 4000000
namespace Evl
open PySem L2
section
variable {K : PySem.W.Frag} {σ : L2.St} {H H' G : Hp} {ta tb te tx td tl : TE} {t : TT}
theorem eu_if {b : Bool} {xs : List V} (h : EvT t σ H b) (h1 : b = true → EvU ta σ H xs) (h2 : b = false → EvU tb σ H xs) : EvU (tIf t ta tb) σ H xs := fun H1 e Q q => h H1 e _ fun H2 e2 => by
  cases b with
  | true =>
    show ta σ H2 Q
    exact h1 rfl H2 (e.trans e2) Q fun p H3 np e3 g => q p H3 (fresh_back e2 np) (e2.trans e3) g
  | false =>
    show tb σ H2 Q
    exact h2 rfl H2 (e.trans e2) Q fun p H3 np e3 g => q p H3 (fresh_back e2 np) (e2.trans e3) g
theorem eu_nil : EvU (tTup tNil) σ H [] := eu_tup ea_nil (by show 0 ≤ 100000; omega)
def rTupOf (K : PySem.W.Frag) : List V → Hp → VK → Prop := fun xs H Q => ∃ p ys, xs = [.ref p] ∧ ((SqL K H p ys ∧ ∀ l, H l = none → Q (.ref l) (upd H l (.tup ys))) ∨ (SqT K H p ys ∧ Q (.ref p) H))
theorem eu_tupOf {a : Addr} {xs : List V} (h : Ev ta σ H (.ref a)) (g : H a = some (.lst xs)) : EvU (tCB (rTupOf K) (tCons ta tNil)) σ H xs := fun H1 e Q q =>
  h H1 e _ fun H2 e2 => ⟨a, xs, rfl, .inl ⟨sq_of (e2 _ _ (e _ _ g)), fun l nl => q l _ (fresh_back e2 nl) (e2.trans (Ex.new nl)) upd_same⟩⟩
end
end Evl
namespace KB
open PySem PySem.Spec PyProof.Rows L2 Evl
/-! ### images as data: tuples, or lists -/
def sqD (b : Bool) (ds : List PyData) : PyData := if b = true then .tuple ds else .list ds
def cellsD (b : Bool) (r : Rw) : PyData := sqD b (if r.w = 1 then [] else [.int 0, .int 0, .int 0, .int 0])
def rowDt (b : Bool) (r : Rw) : PyData := sqD b [.int r.n, if r.up = 1 then .none else .int r.up, .int r.s, .int r.g, .bool r.ad, .str (wordOf r.w), if r.w = 1 then .int (r.n - 9) else .none, .none, cellsD b r, sqD b []]
def imgD (b : Bool) (M : Fam) : PyData := sqD b [sqD b (M.map (rowDt b)), sqD b [], sqD b [], sqD b [], sqD b [], sqD b []]
theorem Dx.sq {H : Hp} {v : V} {b : Bool} {ds : List PyData} (h : Dx H v (sqD b ds)) : ∃ a xs, v = .ref a ∧ (H a = some (.tup xs) ∨ H a = some (.lst xs)) ∧ DxAll H xs ds := by
  cases b with
  | true =>
    have h' : Dx H v (.tuple ds) := h
    cases h' with
    | tup e h => exact ⟨_, _, rfl, .inl e, h⟩
  | false =>
    have h' : Dx H v (.list ds) := h
    cases h' with
    | lst e h => exact ⟨_, _, rfl, .inr e, h⟩
theorem Dx.row {H : Hp} {v : V} {b : Bool} {r : Rw} (h : Dx H v (rowDt b r)) : RowAt H v r := by
  obtain ⟨a, xs, rfl, g, d⟩ := Dx.sq h
  cases d with | cons d0 d => cases d with | cons d1 d => cases d with | cons d2 d => cases d with | cons d3 d => cases d with | cons d4 d => cases d with | cons d5 d => cases d with | cons d6 d => cases d with | cons d7 d => cases d with | cons d8 d => cases d with | cons d9 d =>
    cases d
    refine ⟨a, _, rfl, g, rfl, ?_, ?_, ?_, ?_, ?_, ?_⟩
    · cases d0; rfl
    · by_cases z : r.up = 1
      · rw [if_pos z] at d1 ⊢
        cases d1; rfl
      · rw [if_neg z] at d1 ⊢
        cases d1; rfl
    · cases d2; rfl
    · cases d3; rfl
    · cases d4; rfl
    · cases d5; rfl
theorem Dx.img {H : Hp} {v : V} {b : Bool} {M : Fam} (h : Dx H v (imgD b M)) : ImgAt H v M := by
  obtain ⟨a, xs, rfl, g, d⟩ := Dx.sq h
  cases d with
  | @cons u us _ _ d0 d =>
    obtain ⟨c, ys, rfl, gc, dc⟩ := Dx.sq d0
    obtain ⟨z1, z2, z3⟩ := dc.zip
    have key : ∀ (ys : List V) (M : Fam), DxAll H ys (M.map (rowDt b)) → ∃ L : List (Rw × V), L.map (·.2) = ys ∧ L.map (·.1) = M ∧ ∀ q ∈ L, RowAt H q.2 q.1 := by
      intro ys M
      induction M generalizing ys with
      | nil =>
        intro d
        cases d
        exact ⟨[], rfl, rfl, fun q m => nomatch m⟩
      | cons r M ih =>
        intro d
        cases d with
        | cons d1 d2 =>
          obtain ⟨L, l1, l2, l3⟩ := ih _ d2
          refine ⟨(r, _) :: L, by rw [List.map_cons, l1], by rw [List.map_cons, l2], fun q m => ?_⟩
          rcases List.mem_cons.mp m with m | m
          · rw [m]; exact d1.row
          · exact l3 q m
    obtain ⟨L, l1, l2, l3⟩ := key ys M dc
    exact ⟨a, _, c, L, rfl, g, rfl, by rw [l1]; exact gc, l2, l3⟩
theorem word_end (w : Nat) : decide (V.str (wordOf w) = V.str "ended") = decide (w = 1) := by
  unfold wordOf
  by_cases h : w = 1
  · rw [if_pos h, decide_eq_true h]
    decide +kernel
  · rw [if_neg h, decide_eq_false h]
    by_cases h2 : w = 2
    · rw [if_pos h2]
      decide +kernel
    · rw [if_neg h2]
      decide +kernel
abbrev sImage : Stmt := topS 40
abbrev nImage : List Str := ["_law_kin", "_law_found", "_law_n", "_law_up", "_law_session_here", "_law_group_here", "_law_adopts", "_law_word", "_law_row"]
theorem scImage : FnScope nImage ["_law_kin"] (defScope sImage) := ⟨rfl, rfl, rfl, by decide +kernel, rfl, by decide +kernel, by decide +kernel⟩
def spImage : Sp := fun vs H Q _ => ∃ kd L, vs = [.ref kd] ∧ Lk H kd L ∧ Born (rowsL L) ∧ RetD (imgD true (famL L)) H Q
theorem same_row {L : List Ent} (B : Born (rowsL L)) {e : Ent} (me : e ∈ L) {r : Rw} (mr : r ∈ famL L) (h : e.1.n = r.n) : e.1 = r := by
  have h1 := look_of (wfL B).asc (row_in B me)
  have h2 := look_of (wfL B).asc mr
  rw [h, h2] at h1
  exact (Option.some.inj h1).symm
section
variable {P : Program} {w : World} {K : PySem.W.Frag} {mg : Str → Option Value} {base : Heap} {f : Addr} {fd : FuncData}
theorem ok_image (F : Fun K "_law_image" "_law_image" sImage f fd) (mo : mg "sorted" = none) (mt : mg "tuple" = none) : FnOk P w K mg base CX0 1 f fd ["_law_kin"] spImage := by
  refine F.ok scImage (fun vs H Q E h => ?_) (fun cdv A outer s H vs Q E hr h => ?_)
  · obtain ⟨kd, L, rfl, _⟩ := h
    rfl
  · obtain ⟨kd, L, rfl, N, B, q⟩ := h
    have hu := hu_of hr
    have W := wfL B
    refine ⟨_, pss_cons (ps_set (i := 1) scImage.nd rfl (.inl rfl) (pe_lst pa_nil))
      (pss_cons (ps_for PassesOwn.never rfl (pi_list (pe_callB (cr_srtD rfl) (by rfl) mo (by decide +kernel) (pa_cons (pv 0) pa_nil))) (pg_name (i := 2) scImage.nd rfl (.inl rfl))
        (pss_cons (ps_asg (pe_dget hu (pv 0) (pv 2) (fun _ _ => rfl)) (pg_unl rfl (pgs_cons (pg_name (i := 3) scImage.nd rfl (.inl rfl)) (pgs_cons (pg_name (i := 4) scImage.nd rfl (.inl rfl)) (pgs_cons (pg_name (i := 5) scImage.nd rfl (.inl rfl)) (pgs_cons (pg_name (i := 6) scImage.nd rfl (.inl rfl)) (pgs_cons (pg_name (i := 7) scImage.nd rfl (.inl rfl)) pgs_nil)))))))
        (pss_cons (ps_set (i := 8) scImage.nd rfl (.inl rfl) (pe_tup (pa_cons (pv 2) (pa_cons (pe_ifExp (pt_cmpR op_eq (pv 3) pe_int (nomark _)) pe_non (pv 3)) (pa_cons (pv 4) (pa_cons (pv 5) (pa_cons (pv 6) (pa_cons (pv 7) (pa_cons (pe_ifExp (pt_cmpR op_eq (pv 7) pe_str (nomark _)) (pe_op op_sub (pv 2) pe_int) pe_non) (pa_cons pe_non pa_nil))))))))))
        (pss_one (ps_expr (pe_bm PySem.F.plainAttrs_list PySem.F.slot_list_append PySem.F.type_list_append mt_append (pv 1) (pa_cons (pe_op op_catT (pv 8) (pe_tup (pa_cons (pe_ifExp (pt_cmpR op_eq (pv 7) pe_str (nomark _)) (pe_tup pa_nil) (pe_tup (pa_cons pe_int (pa_cons pe_int (pa_cons pe_int (pa_cons pe_int pa_nil)))))) (pa_cons (pe_tup pa_nil) pa_nil)))) pa_nil)))))))
      (pss_one (ps_ret (pe_tup (pa_cons (pe_callTy call_tuple_of (by rfl) mt (by decide +kernel) (pa_cons (pv 1) pa_nil)) (pa_cons (pe_tup pa_nil) (pa_cons (pe_tup pa_nil) (pa_cons (pe_tup pa_nil) (pa_cons (pe_tup pa_nil) (pa_cons (pe_tup pa_nil) pa_nil)))))))))), ?_⟩
    refine q_asgL (el_lst ea_nil (by show 0 ≤ 100000; omega)) fun q0 H1 nq e1 g1 => ?_
    have N1 := N.mono e1
    have few : (famL L).length ≤ 20 := W.few
    refine q_forNLn (K := K) (lk_sorted B N1 (ev_var rfl)) (fun p i σ G => (∃ y2 y3 y4 y5 y6 y7 y8, σ = [some (.ref kd), some (.ref q0), y2, y3, y4, y5, y6, y7, y8]) ∧ Ex H G ∧ p ≠ q0 ∧ G p = some (.lst ((keys (famL L)).map V.int)) ∧ ∃ acc, G q0 = some (.lst acc) ∧ DxAll (mask G [q0]) acc (((famL L).take i).map (rowDt true)))
      (fun p H2 np e2 g2 => ⟨⟨_, _, _, _, _, _, _, rfl⟩, e1.trans e2, (fun z => by rw [z, g1] at np; cases np), g2, [], e2 _ _ g1, .nil⟩) (fun p i σ G _ g => sq_of g.2.2.2.1) ?_ ?_
    · rintro p i x σ G hx ⟨⟨y2, y3, y4, y5, y6, y7, y8, rfl⟩, eG, npq, gp, acc, gq, da⟩
      obtain ⟨n, en, rfl⟩ := ints_at hx
      have en2 : (keys (famL L))[i]? = some n := en
      unfold keys at en2
      rw [List.getElem?_map] at en2
      obtain ⟨r, er, rfl⟩ := Option.map_eq_some_iff.mp en2
      have mr := List.mem_of_getElem? er
      obtain ⟨e, me, hen⟩ := in_keys B (List.mem_map_of_mem (f := fun r : Rw => r.n) mr)
      have eer := same_row B me mr hen
      have NG := N.mono eG
      refine ev_dgetR (σ := [some (.ref kd), some (.ref q0), some (.int r.n), y3, y4, y5, y6, y7, y8]) (H := G) (ev_var (i := 0) rfl) (ev_var (i := 2) rfl) NG.top (by rw [← hen]; exact val_tbl B me) G (Ex.refl G) _ fun G1 e1 => ?_
      have gr : G1 e.2 = some (.lst (row5 r)) := by rw [← eer]; exact e1 _ _ (NG.rows e me)
      refine ⟨e.2, _, rfl, sq_of gr, rfl, _, _, rfl, _, _, rfl, _, _, rfl, _, _, rfl, _, _, rfl, rfl, ?_⟩
      have eW := word_end r.w
      have tend : ∀ {σ2 : L2.St} {G2 : Hp}, σ2[7]? = some (some (.str (wordOf r.w))) → EvT (tTest (tOp rEq (tVar 7) (tC (.str "ended")))) σ2 G2 (decide (r.w = 1)) := fun h => et_is (et_test (ev_op (ev_var h) ev_c (rv_eq rfl))) eW
      have v1 : Ev (tIf (tTest (tOp rEq (tVar 3) (tC (.int 1)))) (tC .non) (tVar 3)) [some (.ref kd), some (.ref q0), some (.int r.n), some (.int r.up), some (.int r.s), some (.int r.g), some (.bl r.ad), some (.str (wordOf r.w)), y8] G1 (if r.up = 1 then .non else .int r.up) := by
        refine ev_if (b := decide (r.up = 1)) (et_is (et_test (ev_op (ev_var rfl) ev_c (rv_eq rfl))) (dec_int _ _)) (fun h => ?_) (fun h => ?_)
        · rw [if_pos (of_decide_eq_true h)]; exact ev_c
        · rw [if_neg (of_decide_eq_false h)]; exact ev_var rfl
      have v2 : Ev (tIf (tTest (tOp rEq (tVar 7) (tC (.str "ended")))) (tOp (rI0 fun i j => .int (i - j)) (tVar 2) (tC (.int 9))) (tC .non)) [some (.ref kd), some (.ref q0), some (.int r.n), some (.int r.up), some (.int r.s), some (.int r.g), some (.bl r.ad), some (.str (wordOf r.w)), y8] G1 (if r.w = 1 then .int (r.n - 9) else .non) := by
        refine ev_if (b := decide (r.w = 1)) (tend rfl) (fun h => ?_) (fun h => ?_)
        · rw [if_pos (of_decide_eq_true h)]; exact ev_op (ev_var rfl) ev_c rv_I0
        · rw [if_neg (of_decide_eq_false h)]; exact ev_c
      refine q_asgU (eu_tup (ea_cons (ev_var rfl) (ea_cons v1 (ea_cons (ev_var rfl) (ea_cons (ev_var rfl) (ea_cons (ev_var rfl) (ea_cons (ev_var rfl) (ea_cons v2 (ea_cons ev_c ea_nil)))))))) (by show 8 ≤ 100000; omega)) fun r8 G2 nr8 e2 g8 => ?_
      have cel : EvU (tIf (tTest (tOp rEq (tVar 7) (tC (.str "ended")))) (tTup tNil) (tTup (tCons (tC (.int 0)) (tCons (tC (.int 0)) (tCons (tC (.int 0)) (tCons (tC (.int 0)) tNil)))))) [some (.ref kd), some (.ref q0), some (.int r.n), some (.int r.up), some (.int r.s), some (.int r.g), some (.bl r.ad), some (.str (wordOf r.w)), some (.ref r8)] G2 ((if r.w = 1 then [] else [0, 0, 0, 0]).map V.int) := by
        refine eu_if (b := decide (r.w = 1)) (tend rfl) (fun h => ?_) (fun h => ?_)
        · rw [if_pos (of_decide_eq_true h)]; exact eu_nil
        · rw [if_neg (of_decide_eq_false h)]
          exact eu_tup (ea_cons ev_c (ea_cons ev_c (ea_cons ev_c (ea_cons ev_c ea_nil)))) (by show 4 ≤ 100000; omega)
      have eq2 := e1.trans e2
      refine ⟨_, rfl, .inl ⟨rfl, _, SqL.of (eq2 _ _ gq)⟩, _, rfl, ?_⟩
      refine cel G2 (Ex.refl G2) _ fun ca G3 nca e3 gca => ?_
      refine eu_nil (σ := [some (.ref kd), some (.ref q0), some (.int r.n), some (.int r.up), some (.int r.s), some (.int r.g), some (.bl r.ad), some (.str (wordOf r.w)), some (.ref r8)]) (H := G3) G3 (Ex.refl G3) _ fun ea G4 nea e4 gea => ?_
      refine ⟨by show 2 ≤ sizeLine; decide, fun t nt => ?_⟩
      have eT := Ex.new (o := .tup [.ref ca, .ref ea]) nt
      refine ⟨r8, t, _, [.ref ca, .ref ea], rfl, rfl, st_of (eT _ _ (e4 _ _ (e3 _ _ g8))), st_of upd_same, (fun z => nomatch z), by show 10 ≤ sizeLine; decide, (fun z => nomatch z), fun _ tp ntp => ?_⟩
      have eP := Ex.new (o := .tup ([.int r.n, if r.up = 1 then .non else .int r.up, .int r.s, .int r.g, .bl r.ad, .str (wordOf r.w), if r.w = 1 then .int (r.n - 9) else .non, .non] ++ [.ref ca, .ref ea])) ntp
      have eAll := (e3.trans e4).trans (eT.trans eP)
      have gtp : upd (upd G4 t (.tup [.ref ca, .ref ea])) tp (.tup ([.int r.n, if r.up = 1 then .non else .int r.up, .int r.s, .int r.g, .bl r.ad, .str (wordOf r.w), if r.w = 1 then .int (r.n - 9) else .non, .non] ++ [.ref ca, .ref ea])) tp = _ := upd_same
      have gca5 := eP _ _ (eT _ _ (e4 _ _ gca))
      have gea5 := eP _ _ (eT _ _ gea)
      have ntq : tp ≠ q0 := fun z => by rw [z, eT _ _ (e4 _ _ (e3 _ _ (eq2 _ _ gq)))] at ntp; cases ntp
      have ncq : ca ≠ q0 := fun z => by rw [z, eq2 _ _ gq] at nca; cases nca
      have neq : ea ≠ q0 := fun z => by rw [z, e3 _ _ (eq2 _ _ gq)] at nea; cases nea
      have eX := eq2.trans eAll
      generalize upd (upd G4 t (.tup [.ref ca, .ref ea])) tp (.tup ([.int r.n, if r.up = 1 then .non else .int r.up, .int r.s, .int r.g, .bl r.ad, .str (wordOf r.w), if r.w = 1 then .int (r.n - 9) else .non, .non] ++ [.ref ca, .ref ea])) = G5 at eX gtp gca5 gea5 ⊢
      have al : acc.length < 100 := by
        rw [da.length, List.length_map]
        have h2 := List.length_take_le i (famL L)
        have h3 := (List.getElem?_eq_some_iff.mp er).1
        omega
      refine ⟨q0, acc, _, rfl, rfl, eX _ _ gq, sz_lt (by omega), ⟨_, _, _, _, _, _, _, rfl⟩, Ex.mut (eG.trans eX) nq, npq, by rw [upd_ne npq]; exact eX _ _ gp, acc ++ [.ref tp], upd_same, ?_⟩
      rw [mask_upd (List.mem_singleton.mpr rfl), List.take_add_one, er, List.map_append]
      refine (da.mono (mask_same eX fun _ _ _ z => z)).snoc ?_
      have mk : ∀ {a : Addr} {o : HO}, a ≠ q0 → G5 a = some o → mask G5 [q0] a = some o := fun n h => mask_of h fun m => n (List.mem_singleton.mp m)
      refine .tup (mk ntq gtp) (.cons (.int _) (.cons ?_ (.cons (.int _) (.cons (.int _) (.cons (.bl _) (.cons (.str _) (.cons ?_ (.cons .non (.cons ?_ (.cons (.tup (mk neq gea5) .nil) .nil))))))))))
      · by_cases z : r.up = 1
        · rw [if_pos z, if_pos z]; exact .non
        · rw [if_neg z, if_neg z]; exact .int _
      · by_cases z : r.w = 1
        · rw [if_pos z, if_pos z]; exact .int _
        · rw [if_neg z, if_neg z]; exact .non
      · refine .tup (mk ncq gca5) ?_
        by_cases z : r.w = 1
        · rw [if_pos z, if_pos z]; exact .nil
        · rw [if_neg z, if_neg z]; exact .cons (.int _) (.cons (.int _) (.cons (.int _) (.cons (.int _) .nil)))
    · rintro p σ G ⟨⟨y2, y3, y4, y5, y6, y7, y8, rfl⟩, eG, npq, gp, acc, gq, da⟩
      have lk : (keys (famL L)).length = (famL L).length := len_keys _
      rw [List.length_map, lk, List.take_length] at da
      have d0 : DxAll G acc ((famL L).map (rowDt true)) := da.mono (mask_sub G _)
      have z0 : (0 : Nat) ≤ sizeLine := Nat.zero_le _
      refine ⟨_, rfl, q0, acc, rfl, .inl ⟨sq_of gq, fun a1 n1 => ⟨z0, fun a2 n2 => ⟨z0, fun a3 n3 => ⟨z0, fun a4 n4 => ⟨z0, fun a5 n5 => ⟨z0, fun a6 n6 => ⟨by show 6 ≤ sizeLine; decide, fun t nt => ?_⟩⟩⟩⟩⟩⟩⟩⟩
      have f1 := Ex.new (o := .tup acc) n1
      have f2 := Ex.new (o := .tup []) n2
      have f3 := Ex.new (o := .tup []) n3
      have f4 := Ex.new (o := .tup []) n4
      have f5 := Ex.new (o := .tup []) n5
      have f6 := Ex.new (o := .tup []) n6
      have f7 := Ex.new (o := .tup [.ref a1, .ref a2, .ref a3, .ref a4, .ref a5, .ref a6]) nt
      have g6 := f6.trans f7
      have g5 := f5.trans g6
      have g4 := f4.trans g5
      have g3 := f3.trans g4
      have g2 := f2.trans g3
      refine q _ _ (eG.trans (f1.trans g2)) ?_
      exact .tup upd_same (.cons (.tup (g2 _ _ upd_same) (d0.mono (f1.trans g2))) (.cons (.tup (g3 _ _ upd_same) .nil) (.cons (.tup (g4 _ _ upd_same) .nil) (.cons (.tup (g5 _ _ upd_same) .nil) (.cons (.tup (g6 _ _ upd_same) .nil) (.cons (.tup (f7 _ _ upd_same) .nil) .nil))))))
end
end KB
set_option Elab.async false
set_option linter.all false
set_option maxRecDepth 100000
set_option maxHeartbeats 4000000
namespace KB
open PySem PySem.Spec PyProof.Rows L2
abbrev sSame : Stmt := topS 33
abbrev nSame : List Str := ["_law_found", "_law_due", "_law_mine", "_law_its"]
theorem scSame : FnScope nSame ["_law_found", "_law_due"] (defScope sSame) := ⟨rfl, rfl, rfl, by decide +kernel, rfl, by decide +kernel, by decide +kernel⟩
/-- equal data: True -/
def spSame (n : Nat) : Sp := fun vs H Q _ => ∃ (x y : V) (d : PyData), vs = [x, y] ∧ Dx H x d ∧ Dx H y d ∧ Sh n d ∧ ∀ H', Same H H' → Q (.bl true) H'
theorem kit2 {K : PySem.W.Frag} {T a b : String} {r1 r2 : Bool} (h1 : kitB T a = some r1) (h2 : kitB T b = some r2) : PySem.W.kitAny K (.type T) [.type a, .type b] = some (r1 || r2) := by
  refine kitAny_cons (kit_ty h1) (fun e => ?_) (fun e => by rw [e]; rfl)
  rw [e]
  refine kitAny_cons (kit_ty h2) (fun e2 => by rw [e2]; exact kitAny_nil) (fun e2 => by rw [e2]; rfl)
theorem walk_zipT2 {K : PySem.W.Frag} {a b : Addr} {xs ys : List V} (hl : xs.length = ys.length) : Walk (RZ.ItzT K a b) xs.length (fun H => SqT K H a xs ∧ SqT K H b ys) (YPair (fun i => xs[i]?) (fun i => ys[i]?)) := by
  refine ⟨fun i _ hi q => ?_, fun _ q => ⟨xs, ys, q.1, q.2, .inl (Nat.le_refl _)⟩, fun i H v H' _ q y => ?_⟩
  · have h2 : i < ys.length := by omega
    exact ⟨xs, ys, xs[i], ys[i], q.1, q.2, List.getElem?_eq_getElem hi, List.getElem?_eq_getElem h2⟩
  · obtain ⟨T, x, z, h1, h2, h3, h4, h5⟩ := y
    exact ⟨T, x, z, h1, h2, h3, h4 xs q.1, h5 ys q.2⟩
section
variable {P : Program} {w : World} {K : PySem.W.Frag} {mg : Str → Option Value} {base : Heap} {f : Addr} {fd : FuncData}
theorem no_same : FnOk P w K mg base CX0 0 f fd ["_law_found", "_law_due"] (spSame 0) :=
  ⟨fun vs H Q E ⟨_, _, _, _, _, _, h, _⟩ => h.elim, fun _ _ _ _ _ _ _ _ _ _ _ _ _ ⟨_, _, _, _, _, _, h, _⟩ => h.elim⟩
theorem ok_same {n : Nat} (F : Fun K "_law_same" "_law_same" sSame f fd) (G : FnOk P w K mg base CX0 n f fd ["_law_found", "_law_due"] (spSame n)) (bG : Binds K fd ["_law_found", "_law_due"] []) (mG : mg "_law_same" = some (.ref f))
    (mI : mg "isinstance" = none) (mL : mg "list" = none) (mT : mg "tuple" = none) (mN : mg "len" = none) (mA : mg "all" = none) (mZ : mg "zip" = none) (mB : mg "bool" = none) (mS : mg "str" = none) (mi : mg "int" = none) :
    FnOk P w K mg base CX0 (n + 1) f fd ["_law_found", "_law_due"] (spSame (n + 1)) := by
  refine F.ok scSame (fun vs H Q E h => ?_) (fun cdv A outer s H vs Q E hr h => ?_)
  · obtain ⟨x, y, d, rfl, _⟩ := h
    rfl
  · obtain ⟨x, y, d, rfl, hx, hy, hs, q⟩ := h
    refine ⟨_, pss_cons (ps_if (pt_val (pe_callB call_isiT (by rfl) mI (by decide +kernel) (pa_cons (pv 1) (pa_cons (pe_tup (pa_cons (pe_bltn (v := .ty "list") (by rfl) mL (by decide +kernel) rfl) (pa_cons (pe_bltn (v := .ty "tuple") (by rfl) mT (by decide +kernel) rfl) pa_nil))) pa_nil))))
        (pss_cons (ps_if (PW.pt (pw_or (pt_cmpR op_ne (pe_callB call_isi (by rfl) mI (by decide +kernel) (pa_cons (pv 0) (pa_cons (pe_bltn (v := .ty "list") (by rfl) mL (by decide +kernel) rfl) pa_nil))) (pe_callB call_isi (by rfl) mI (by decide +kernel) (pa_cons (pv 1) (pa_cons (pe_bltn (v := .ty "list") (by rfl) mL (by decide +kernel) rfl) pa_nil))) (nomark _)) (pw_or1 (pt_cmpR op_ne (pe_callB call_isi (by rfl) mI (by decide +kernel) (pa_cons (pv 0) (pa_cons (pe_bltn (v := .ty "tuple") (by rfl) mT (by decide +kernel) rfl) pa_nil))) (pe_callB call_isi (by rfl) mI (by decide +kernel) (pa_cons (pv 1) (pa_cons (pe_bltn (v := .ty "tuple") (by rfl) mT (by decide +kernel) rfl) pa_nil))) (nomark _)))))
          (pss_one (ps_ret pe_bl)) pss_nil)
        (pss_one (ps_ret (pe_and (pe_cmpR op_eq (pe_callB call_len_seq (by rfl) mN PySem.boot_len (pa_cons (pv 0) pa_nil)) (pe_callB call_len_seq (by rfl) mN PySem.boot_len (pa_cons (pv 1) pa_nil)) (nomark _)) (pe_one (pe_callB (cr_all rfl) (by rfl) mA (by decide +kernel) (pa_cons
          (pe_lc (own := [("_law_mine", 2), ("_law_its", 3)]) (g := gTup _ 2 (gCons (gName 2) (gCons (gName 3) gNil))) (tt := tYes) rfl scSame.nd (RZ.pi_zipA (by rfl) mZ (pa_cons (pv 0) (pa_cons (pv 1) pa_nil))) (blkOk_by (N := nSame) (sc := defScope sSame) (by decide +kernel))
            (fun _ _ _ _ _ => pg_tup rfl (pgs_cons (pg_name (i := 2) scSame.nd rfl (Or.inl rfl)) (pgs_cons (pg_name (i := 3) scSame.nd rfl (Or.inl rfl)) pgs_nil))) (fun _ _ _ _ _ => pts_nil) (fun _ _ _ _ _ => pe_call G hr rfl mG F.kp bG .nil pass0 (pa_cons (pv 2) (pa_cons (pv 3) pa_nil)))) pa_nil))))))) pss_nil)
      (pss_cons (ps_if (PW.pt (pw_or (pt_cmp (pc_isN (pv 1))) (pw_or1 (pt_val (pe_callB call_isiT (by rfl) mI (by decide +kernel) (pa_cons (pv 1) (pa_cons (pe_tup (pa_cons (pe_bltn (v := .ty "bool") (by rfl) mB (by decide +kernel) rfl) (pa_cons (pe_bltn (v := .ty "str") (by rfl) mS (by decide +kernel) rfl) pa_nil))) pa_nil)))))))
        (pss_one (ps_ret (pe_and (pe_cmpR op_eq (pv 0) (pv 1) (nomark _)) (pe_and (pe_cmpR op_eq (pe_callB call_isi (by rfl) mI (by decide +kernel) (pa_cons (pv 0) (pa_cons (pe_bltn (v := .ty "bool") (by rfl) mB (by decide +kernel) rfl) pa_nil))) (pe_callB call_isi (by rfl) mI (by decide +kernel) (pa_cons (pv 1) (pa_cons (pe_bltn (v := .ty "bool") (by rfl) mB (by decide +kernel) rfl) pa_nil))) (nomark _)) (pe_one (pe_cmpR op_eq (pe_cmp (pc_isN (pv 0))) (pe_cmp (pc_isN (pv 1))) (nomark _)))))))  pss_nil)
      (pss_one (ps_ret (pe_and (pe_callB call_isi (by rfl) mI (by decide +kernel) (pa_cons (pv 0) (pa_cons (pe_bltn (v := .ty "int") (by rfl) mi (by decide +kernel) rfl) pa_nil))) (pe_and (pe_not (pe_callB call_isi (by rfl) mI (by decide +kernel) (pa_cons (pv 0) (pa_cons (pe_bltn (v := .ty "bool") (by rfl) mB (by decide +kernel) rfl) pa_nil)))) (pe_one (pe_cmpR op_eq (pv 0) (pv 1) (nomark _)))))))), ?_⟩
    cases hx with
    | non =>
      cases hy
      refine ⟨_, rfl, by show 2 ≤ sizeLine; decide, fun t1 n1 => ⟨_, t1, _, _, _, false, rfl, upd_same, .cons (.ty _) (.cons (.ty _) .nil), .base .non, kit2 (T := "NoneType") (a := "list") (b := "tuple") (r1 := false) (r2 := false) (by decide +kernel) (by decide +kernel), _, rfl, iteF ?_⟩⟩
      have s1 := same_new (o := HO.tup [.ty "list", .ty "tuple"]) n1
      refine ⟨_, rfl, _, rfl, iteT (iteT ?_)⟩
      refine ⟨_, rfl, _, rfl, rfl, _, rfl, iteT ?_⟩
      refine ⟨_, rfl, _, _, _, _, false, rfl, .ty _, .base .non, kit_ty (by decide +kernel), _, rfl, _, _, _, _, false, rfl, .ty _, .base .non, kit_ty (by decide +kernel), rfl, _, rfl, iteT ?_⟩
      exact ⟨_, rfl, _, rfl, rfl, q _ s1⟩
    | bl b =>
      cases hy
      refine ⟨_, rfl, by show 2 ≤ sizeLine; decide, fun t1 n1 => ⟨_, t1, _, _, _, false, rfl, upd_same, .cons (.ty _) (.cons (.ty _) .nil), .base (.bl b), kit2 (T := "bool") (a := "list") (b := "tuple") (r1 := false) (r2 := false) (by decide +kernel) (by decide +kernel), _, rfl, iteF ?_⟩⟩
      have s1 := same_new (o := HO.tup [.ty "list", .ty "tuple"]) n1
      refine ⟨_, rfl, _, rfl, iteF ?_⟩
      refine ⟨_, rfl, by show 2 ≤ sizeLine; decide, fun t2 n2 => ⟨_, t2, _, _, _, true, rfl, upd_same, .cons (.ty _) (.cons (.ty _) .nil), .base (.bl b), kit2 (T := "bool") (a := "bool") (b := "str") (r1 := true) (r2 := false) (by decide +kernel) (by decide +kernel), _, rfl, iteT ?_⟩⟩
      have s2 := s1.trans (same_new (o := HO.tup [.ty "bool", .ty "str"]) n2)
      refine ⟨_, rfl, _, rfl, rfl, _, rfl, ?_⟩
      rw [decide_eq_true (rfl : (V.bl b) = V.bl b)]
      refine iteT ⟨_, rfl, _, _, _, _, true, rfl, .ty _, .base (.bl b), kit_ty (by decide +kernel), _, rfl, _, _, _, _, true, rfl, .ty _, .base (.bl b), kit_ty (by decide +kernel), rfl, _, rfl, iteT ?_⟩
      exact ⟨_, rfl, _, rfl, rfl, q _ s2⟩
    | str z =>
      cases hy
      refine ⟨_, rfl, by show 2 ≤ sizeLine; decide, fun t1 n1 => ⟨_, t1, _, _, _, false, rfl, upd_same, .cons (.ty _) (.cons (.ty _) .nil), .base (.str z), kit2 (T := "str") (a := "list") (b := "tuple") (r1 := false) (r2 := false) (by decide +kernel) (by decide +kernel), _, rfl, iteF ?_⟩⟩
      have s1 := same_new (o := HO.tup [.ty "list", .ty "tuple"]) n1
      refine ⟨_, rfl, _, rfl, iteF ?_⟩
      refine ⟨_, rfl, by show 2 ≤ sizeLine; decide, fun t2 n2 => ⟨_, t2, _, _, _, true, rfl, upd_same, .cons (.ty _) (.cons (.ty _) .nil), .base (.str z), kit2 (T := "str") (a := "bool") (b := "str") (r1 := false) (r2 := true) (by decide +kernel) (by decide +kernel), _, rfl, iteT ?_⟩⟩
      have s2 := s1.trans (same_new (o := HO.tup [.ty "bool", .ty "str"]) n2)
      refine ⟨_, rfl, _, rfl, rfl, _, rfl, ?_⟩
      rw [decide_eq_true (rfl : (V.str z) = V.str z)]
      refine iteT ⟨_, rfl, _, _, _, _, false, rfl, .ty _, .base (.str z), kit_ty (by decide +kernel), _, rfl, _, _, _, _, false, rfl, .ty _, .base (.str z), kit_ty (by decide +kernel), rfl, _, rfl, iteT ?_⟩
      exact ⟨_, rfl, _, rfl, rfl, q _ s2⟩
    | int i =>
      cases hy
      refine ⟨_, rfl, by show 2 ≤ sizeLine; decide, fun t1 n1 => ⟨_, t1, _, _, _, false, rfl, upd_same, .cons (.ty _) (.cons (.ty _) .nil), .base (.int i), kit2 (T := "int") (a := "list") (b := "tuple") (r1 := false) (r2 := false) (by decide +kernel) (by decide +kernel), _, rfl, iteF ?_⟩⟩
      have s1 := same_new (o := HO.tup [.ty "list", .ty "tuple"]) n1
      refine ⟨_, rfl, _, rfl, iteF ?_⟩
      refine ⟨_, rfl, by show 2 ≤ sizeLine; decide, fun t2 n2 => ⟨_, t2, _, _, _, false, rfl, upd_same, .cons (.ty _) (.cons (.ty _) .nil), .base (.int i), kit2 (T := "int") (a := "bool") (b := "str") (r1 := false) (r2 := false) (by decide +kernel) (by decide +kernel), _, rfl, iteF ?_⟩⟩
      have s2 := s1.trans (same_new (o := HO.tup [.ty "bool", .ty "str"]) n2)
      refine ⟨_, rfl, _, _, _, _, true, rfl, .ty _, .base (.int i), kit_ty (by decide +kernel), _, rfl, iteT ?_⟩
      refine ⟨_, rfl, _, _, _, _, false, rfl, .ty _, .base (.int i), kit_ty (by decide +kernel), _, rfl, _, rfl, iteT ?_⟩
      refine ⟨_, rfl, _, rfl, rfl, ?_⟩
      rw [decide_eq_true (rfl : (V.int i) = V.int i)]
      exact q _ s2
    | @lst a xs ds ea hxs =>
      cases hy with
      | @lst b ys _ eb hys =>
        have hlen : xs.length = ys.length := hxs.length.trans hys.length.symm
        refine ⟨_, rfl, by show 2 ≤ sizeLine; decide, fun t1 n1 => ?_⟩
        have s1 := same_new (o := HO.tup [.ty "list", .ty "tuple"]) n1
        refine ⟨_, t1, _, _, _, true, rfl, upd_same, .cons (.ty _) (.cons (.ty _) .nil), .base (.lst (s1 _ _ eb)), kit2 (T := "list") (a := "list") (b := "tuple") (r1 := true) (r2 := false) (by decide +kernel) (by decide +kernel), _, rfl, iteT ?_⟩
        refine ⟨_, rfl, _, _, _, _, true, rfl, .ty _, .base (.lst (s1 _ _ ea)), kit_ty (by decide +kernel), _, rfl, _, _, _, _, true, rfl, .ty _, .base (.lst (s1 _ _ eb)), kit_ty (by decide +kernel), rfl, _, rfl, iteF ?_⟩
        refine ⟨_, rfl, _, _, _, _, false, rfl, .ty _, .base (.lst (s1 _ _ ea)), kit_ty (by decide +kernel), _, rfl, _, _, _, _, false, rfl, .ty _, .base (.lst (s1 _ _ eb)), kit_ty (by decide +kernel), rfl, _, rfl, iteF ?_⟩
        refine ⟨_, rfl, a, xs, rfl, .inl (SqL.of (s1 _ _ ea)), _, rfl, b, ys, rfl, .inl (SqL.of (s1 _ _ eb)), rfl, _, rfl, ?_⟩
        rw [hlen, decide_eq_true (rfl : (V.int (ys.length : Int)) = V.int (ys.length : Int))]
        refine iteT ?_
        refine ⟨_, rfl, _, rfl, a, b, xs, ys, rfl, .inl ⟨SqL.of (s1 _ _ ea), SqL.of (s1 _ _ eb), fun D nD => ?_⟩⟩
        have nDH : H D = none := s1.free nD
        refine lc_it (walk_zip (n := xs.length) (by omega)) (fun i H3 => Same H H3 ∧ H3 D = some (.lst ((List.replicate i true).map V.bl)))
          ⟨s1.trans (same_new nD), upd_same⟩ (fun i H3 _ p => ⟨SqL.of (p.1 _ _ ea), SqL.of (p.1 _ _ eb)⟩) ?_ ?_
        · rintro i x H3 H4 hi ⟨s3, eD⟩ ⟨t, x1, x2, rfl, nt, rfl, f1, f2⟩
          have f1' : xs[i]? = some x1 := f1
          have f2' : ys[i]? = some x2 := f2
          obtain ⟨d1, e1, g1⟩ := hxs.get f1'
          obtain ⟨d2, e2, g2⟩ := hys.get f2'
          obtain rfl : d1 = d2 := Option.some.inj (e1.symm.trans e2)
          have s4 := s3.trans (same_new (o := HO.tup [x1, x2]) nt)
          refine ⟨t, _, rfl, .inl (.inl upd_same), rfl, _, _, rfl, _, _, rfl, rfl, rfl, _, rfl, _, rfl, x1, x2, d1, rfl, g1.mono s4, g2.mono s4, hs.2 d1 (List.mem_of_getElem? e1), fun H5 s5 => ?_⟩
          refine ⟨_, s5 _ _ ((upd_ne (ne_of_none eD nt)).trans eD), ?_, same_mut (s4.trans s5) nDH, ?_⟩
          · rw [List.length_map, List.length_replicate]
            have z := hs.1
            have z2 := hxs.length
            exact Nat.lt_of_le_of_lt (show i ≤ 1000 by omega) (by decide)
          · rw [upd_same, List.replicate_succ', List.map_append]
            rfl
        · rintro H3 ⟨s3, eD⟩
          refine ⟨D, _, rfl, SqL.of eD, ?_⟩
          have al : (List.replicate xs.length true).all id = true := by
            rw [List.all_eq_true]
            intro z hz
            rw [List.eq_of_mem_replicate hz]
            rfl
          rw [al]
          exact q _ s3
    | @tup a xs ds ea hxs =>
      cases hy with
      | @tup b ys _ eb hys =>
        have hlen : xs.length = ys.length := hxs.length.trans hys.length.symm
        refine ⟨_, rfl, by show 2 ≤ sizeLine; decide, fun t1 n1 => ?_⟩
        have s1 := same_new (o := HO.tup [.ty "list", .ty "tuple"]) n1
        refine ⟨_, t1, _, _, _, true, rfl, upd_same, .cons (.ty _) (.cons (.ty _) .nil), .base (.tup (s1 _ _ eb)), kit2 (T := "tuple") (a := "list") (b := "tuple") (r1 := false) (r2 := true) (by decide +kernel) (by decide +kernel), _, rfl, iteT ?_⟩
        refine ⟨_, rfl, _, _, _, _, false, rfl, .ty _, .base (.tup (s1 _ _ ea)), kit_ty (by decide +kernel), _, rfl, _, _, _, _, false, rfl, .ty _, .base (.tup (s1 _ _ eb)), kit_ty (by decide +kernel), rfl, _, rfl, iteF ?_⟩
        refine ⟨_, rfl, _, _, _, _, true, rfl, .ty _, .base (.tup (s1 _ _ ea)), kit_ty (by decide +kernel), _, rfl, _, _, _, _, true, rfl, .ty _, .base (.tup (s1 _ _ eb)), kit_ty (by decide +kernel), rfl, _, rfl, iteF ?_⟩
        refine ⟨_, rfl, a, xs, rfl, .inr (SqT.of (s1 _ _ ea)), _, rfl, b, ys, rfl, .inr (SqT.of (s1 _ _ eb)), rfl, _, rfl, ?_⟩
        rw [hlen, decide_eq_true (rfl : (V.int (ys.length : Int)) = V.int (ys.length : Int))]
        refine iteT ?_
        refine ⟨_, rfl, _, rfl, a, b, xs, ys, rfl, .inr ⟨SqT.of (s1 _ _ ea), SqT.of (s1 _ _ eb), fun D nD => ?_⟩⟩
        have nDH : H D = none := s1.free nD
        refine lc_it (walk_zipT2 hlen) (fun i H3 => Same H H3 ∧ H3 D = some (.lst ((List.replicate i true).map V.bl)))
          ⟨s1.trans (same_new nD), upd_same⟩ (fun i H3 _ p => ⟨SqT.of (p.1 _ _ ea), SqT.of (p.1 _ _ eb)⟩) ?_ ?_
        · rintro i x H3 H4 hi ⟨s3, eD⟩ ⟨t, x1, x2, rfl, nt, rfl, f1, f2⟩
          have f1' : xs[i]? = some x1 := f1
          have f2' : ys[i]? = some x2 := f2
          obtain ⟨d1, e1, g1⟩ := hxs.get f1'
          obtain ⟨d2, e2, g2⟩ := hys.get f2'
          obtain rfl : d1 = d2 := Option.some.inj (e1.symm.trans e2)
          have s4 := s3.trans (same_new (o := HO.tup [x1, x2]) nt)
          refine ⟨t, _, rfl, .inl (.inl upd_same), rfl, _, _, rfl, _, _, rfl, rfl, rfl, _, rfl, _, rfl, x1, x2, d1, rfl, g1.mono s4, g2.mono s4, hs.2 d1 (List.mem_of_getElem? e1), fun H5 s5 => ?_⟩
          refine ⟨_, s5 _ _ ((upd_ne (ne_of_none eD nt)).trans eD), ?_, same_mut (s4.trans s5) nDH, ?_⟩
          · rw [List.length_map, List.length_replicate]
            have z := hs.1
            have z2 := hxs.length
            exact Nat.lt_of_le_of_lt (show i ≤ 1000 by omega) (by decide)
          · rw [upd_same, List.replicate_succ', List.map_append]
            rfl
        · rintro H3 ⟨s3, eD⟩
          refine ⟨D, _, rfl, SqL.of eD, ?_⟩
          have al : (List.replicate xs.length true).all id = true := by
            rw [List.all_eq_true]
            intro z hz
            rw [List.eq_of_mem_replicate hz]
            rfl
          rw [al]
          exact q _ s3
end
end KB
set_option Elab.async false
set_option linter.all false
set_option maxRecDepth 100000
set_option maxHeartbeats 4000000
namespace KB
open PySem PySem.Spec PyProof.Rows L2 Evl
mutual
def listsD : PyData → PyData
  | .list ds => .list (listsAll ds)
  | .tuple ds => .list (listsAll ds)
  | .none => .none
  | .bool b => .bool b
  | .int i => .int i
  | .str s => .str s
  | .dict d => .dict d
def listsAll : List PyData → List PyData
  | [] => []
  | d :: ds => listsD d :: listsAll ds
end
theorem listsAll_map : ∀ (ds : List PyData), listsAll ds = ds.map listsD
  | [] => by simp [listsAll]
  | d :: ds => by simp [listsAll, listsAll_map ds]
abbrev sLists : Stmt := topS 48
theorem scLists : FnScope ["_law_matter", "_law_bit"] ["_law_matter"] (defScope sLists) := ⟨rfl, rfl, rfl, by decide +kernel, rfl, by decide +kernel, by decide +kernel⟩
def spLists (n : Nat) : Sp := fun vs H Q _ => ∃ (v : V) (d : PyData) (M : List Addr), vs = [v] ∧ Dx (mask H M) v d ∧ (∀ b ∈ M, H b ≠ none) ∧ Sh n d ∧ ∀ (v' : V) (H' : Hp), Ex H H' → Dx (mask H' M) v' (listsD d) → Q v' H'
section
variable {P : Program} {w : World} {K : PySem.W.Frag} {mg : Str → Option Value} {base : Heap} {f : Addr} {fd : FuncData}
theorem no_lists : FnOk P w K mg base CX0 0 f fd ["_law_matter"] (spLists 0) :=
  ⟨fun vs H Q E ⟨_, _, _, _, _, _, h, _⟩ => h.elim, fun _ _ _ _ _ _ _ _ _ _ _ _ _ ⟨_, _, _, _, _, _, h, _⟩ => h.elim⟩
theorem ok_lists {n : Nat} (F : Fun K "_law_lists" "_law_lists" sLists f fd) (G : FnOk P w K mg base CX0 n f fd ["_law_matter"] (spLists n)) (bG : Binds K fd ["_law_matter"] []) (mG : mg "_law_lists" = some (.ref f))
    (mI : mg "isinstance" = none) (mL : mg "list" = none) (mT : mg "tuple" = none) : FnOk P w K mg base CX0 (n + 1) f fd ["_law_matter"] (spLists (n + 1)) := by
  refine F.ok scLists (fun vs H Q E h => ?_) (fun cdv A outer s H vs Q E hr h => ?_)
  · obtain ⟨v, d, M, rfl, _⟩ := h
    rfl
  · obtain ⟨v, d, M, rfl, hd, hM, hs, q⟩ := h
    refine ⟨_, pss_one (ps_ret (pe_ifExp (pt_val (pe_callB call_isiT (by rfl) mI (by decide +kernel) (pa_cons (pv 0) (pa_cons (pe_tup (pa_cons (pe_bltn (v := .ty "list") (by rfl) mL (by decide +kernel) rfl) (pa_cons (pe_bltn (v := .ty "tuple") (by rfl) mT (by decide +kernel) rfl) pa_nil))) pa_nil))))
      (pe_lc (own := [("_law_bit", 1)]) (g := gName 1) (tt := tYes) (te := tCall (spLists n) [] E0 (tCons (tVar 1) tNil)) rfl scLists.nd (pi_seq (pv 0)) (blkOk_by (N := ["_law_matter", "_law_bit"]) (sc := defScope sLists) (by decide +kernel)) (fun _ _ _ _ _ => pg_name (i := 1) scLists.nd rfl (Or.inl rfl)) (fun _ _ _ _ _ => pts_nil)
        (fun _ _ _ _ _ => pe_call G hr rfl mG F.kp bG .nil pass0 (pa_cons (pv 1) pa_nil)))
      (pv 0))), ?_⟩
    -- one turn
    have turn : ∀ (D : Addr) (H1 : Hp) (xs : List V) (ds : List PyData), Ex H H1 → H1 D = none → DxAll (mask H1 M) xs ds → ds.length ≤ 1000 → (∀ d ∈ ds, Sh n d) → ∀ (i : Nat) (x : V) (H3 H4 : Hp), i < xs.length →
        (Ex H1 H3 ∧ ∃ ys, H3 D = some (.lst ys) ∧ ys.length = i ∧ DxAll (mask H3 (D :: M)) ys ((ds.take i).map listsD)) → YAt xs i H3 x H4 →
        spLists n [x] H4 (fun y H5 => ∃ acc, H5 D = some (.lst acc) ∧ acc.length < sizeLine ∧ Ex H1 (upd H5 D (.lst (acc ++ [y]))) ∧ ∃ ys, upd H5 D (.lst (acc ++ [y])) D = some (.lst ys) ∧ ys.length = i + 1 ∧ DxAll (mask (upd H5 D (.lst (acc ++ [y]))) (D :: M)) ys ((ds.take (i + 1)).map listsD)) E0 := by
      rintro D H1 xs ds e1 nD hx hl hsh i x H3 H4 hi ⟨s3, ys, e3, ly, dx⟩ ⟨rfl, ex⟩
      obtain ⟨di, edi, hdi⟩ := hx.get ex
      refine ⟨x, di, D :: M, rfl, hdi.mono (mask_same s3 fun b o e z => ?_), fun b hb => ?_, hsh di (List.mem_of_getElem? edi), fun v' H5 s5 d5 => ?_⟩
      · rcases List.mem_cons.mp z with z | z
        · rw [z, nD] at e; cases e
        · exact z
      · rcases List.mem_cons.mp hb with z | z
        · rw [z, e3]; exact fun q => nomatch q
        · intro e
          exact hM b z (fresh_back (e1.trans s3) e)
      · refine ⟨ys, s5 _ _ e3, ?_, Ex.mut (s3.trans s5) nD, ys ++ [v'], upd_same, by rw [List.length_append, ly]; rfl, ?_⟩
        · have z := hx.length
          exact Nat.lt_of_le_of_lt (show ys.length ≤ 1000 by omega) (by decide)
        · rw [mask_upd List.mem_cons_self, List.take_add_one, edi, List.map_append]
          exact (dx.mono (mask_same s5 fun _ _ _ z => z)).snoc d5
    have done : ∀ (D : Addr) (H1 : Hp) (xs : List V) (ds : List PyData) (H3 : Hp), Ex H H1 → H1 D = none → DxAll (mask H1 M) xs ds → (Ex H1 H3 ∧ ∃ ys, H3 D = some (.lst ys) ∧ ys.length = xs.length ∧ DxAll (mask H3 (D :: M)) ys ((ds.take xs.length).map listsD)) → Dx (mask H3 M) (.ref D) (.list (listsAll ds)) := by
      rintro D H1 xs ds H3 e1 nD hx ⟨s3, ys, e3, ly, dx⟩
      rw [hx.length, List.take_length, ← listsAll_map] at dx
      exact .lst (mask_of e3 fun z => hM D z (fresh_back e1 nD)) (dx.mono (mask_same (Ex.refl _) fun _ _ _ z => List.mem_cons_of_mem _ z))
    have atom : ∀ (T : String), (∀ H', TyX K H' v (.type T)) → kitB T "list" = some false → kitB T "tuple" = some false → listsD d = d → tRet (tIf (tTest (tCB (rIsiT K) (tCons (tVar 0) (tCons (tTup (tCons (tC (.ty "list")) (tCons (tC (.ty "tuple")) tNil))) tNil)))) (tLc (iSeq K (tVar 0)) (gName 1) tYes (tCall (spLists n) [] E0 (tCons (tVar 1) tNil)) [1]) (tVar 0)) { nx := fun _ H' => Q .non H', rt := Q } [some v, none] H := by
      intro T ty k1 k2 ed
      refine ⟨_, rfl, by show 2 ≤ sizeLine; decide, fun t1 n1 => ⟨_, t1, _, _, _, false, rfl, upd_same, .cons (.ty _) (.cons (.ty _) .nil), ?_, kit2 (T := T) (a := "list") (b := "tuple") (r1 := false) (r2 := false) k1 k2, _, rfl, iteF ⟨_, rfl, q _ _ (Ex.new n1) ?_⟩⟩⟩
      · exact ty _
      · rw [ed]
        exact hd.mono (mask_same (Ex.new n1) fun _ _ _ z => z)
    cases hd with
    | non => exact atom "NoneType" (fun _ => .base .non) (by decide +kernel) (by decide +kernel) (by simp [listsD])
    | bl b => exact atom "bool" (fun _ => .base (.bl b)) (by decide +kernel) (by decide +kernel) (by simp [listsD])
    | int i => exact atom "int" (fun _ => .base (.int i)) (by decide +kernel) (by decide +kernel) (by simp [listsD])
    | str x => exact atom "str" (fun _ => .base (.str x)) (by decide +kernel) (by decide +kernel) (by simp [listsD])
    | @lst a xs ds e hx =>
      have ea := (mask_at e).1
      refine ⟨_, rfl, by show 2 ≤ sizeLine; decide, fun t1 n1 => ?_⟩
      have e1 := Ex.new (o := HO.tup [.ty "list", .ty "tuple"]) n1
      refine ⟨_, t1, _, _, _, true, rfl, upd_same, .cons (.ty _) (.cons (.ty _) .nil), .base (.lst (e1 _ _ ea)), kit2 (T := "list") (a := "list") (b := "tuple") (r1 := true) (r2 := false) (by decide +kernel) (by decide +kernel), _, rfl, iteT ?_⟩
      have hx1 := hx.mono (mask_same e1 (M := M) (M' := M) fun _ _ _ z => z)
      refine .inl ⟨_, rfl, a, rfl, ⟨_, SqL.of (e1 _ _ ea)⟩, fun D nD => ?_⟩
      refine lc_it (walk_list (K := K) (a := a) (xs := xs)) (fun i H3 => Ex _ H3 ∧ ∃ ys, H3 D = some (.lst ys) ∧ ys.length = i ∧ DxAll (mask H3 (D :: M)) ys ((ds.take i).map listsD))
        ⟨Ex.new nD, [], upd_same, rfl, .nil⟩ (fun i H3 _ p => SqL.of (p.1 _ _ (e1 _ _ ea))) (fun i x H3 H4 hi p y => ?_) (fun H3 p => ?_)
      · exact ⟨rfl, _, rfl, turn D _ xs ds e1 nD hx1 hs.1 hs.2 i x H3 H4 hi p y⟩
      · have := done D _ xs ds H3 e1 nD hx1 p
        exact q _ _ (e1.trans p.1) (by simpa [listsD] using this)
    | @tup a xs ds e hx =>
      have ea := (mask_at e).1
      refine ⟨_, rfl, by show 2 ≤ sizeLine; decide, fun t1 n1 => ?_⟩
      have e1 := Ex.new (o := HO.tup [.ty "list", .ty "tuple"]) n1
      refine ⟨_, t1, _, _, _, true, rfl, upd_same, .cons (.ty _) (.cons (.ty _) .nil), .base (.tup (e1 _ _ ea)), kit2 (T := "tuple") (a := "list") (b := "tuple") (r1 := false) (r2 := true) (by decide +kernel) (by decide +kernel), _, rfl, iteT ?_⟩
      have hx1 := hx.mono (mask_same e1 (M := M) (M' := M) fun _ _ _ z => z)
      refine .inr ⟨_, rfl, a, rfl, ⟨_, SqT.of (e1 _ _ ea)⟩, fun D nD => ?_⟩
      refine lc_it (walk_tup (K := K) (a := a) (xs := xs)) (fun i H3 => Ex _ H3 ∧ ∃ ys, H3 D = some (.lst ys) ∧ ys.length = i ∧ DxAll (mask H3 (D :: M)) ys ((ds.take i).map listsD))
        ⟨Ex.new nD, [], upd_same, rfl, .nil⟩ (fun i H3 _ p => SqT.of (p.1 _ _ (e1 _ _ ea))) (fun i x H3 H4 hi p y => ?_) (fun H3 p => ?_)
      · exact ⟨rfl, _, rfl, turn D _ xs ds e1 nD hx1 hs.1 hs.2 i x H3 H4 hi p y⟩
      · have := done D _ xs ds H3 e1 nD hx1 p
        exact q _ _ (e1.trans p.1) (by simpa [listsD] using this)
end
end KB
set_option Elab.async false
set_option linter.all false
set_option maxRecDepth 100000
set_option maxHeartbeats 4000000
namespace L2
open PySem PySem.Spec PyProof.Rows
def kwG : List Value → List Value → List Value := fun us ws => match us with | [] => ws | _ :: _ => []
def kwV : List V → List V → List V := fun us ws => match us with | [] => ws | _ :: _ => []
theorem kw_one {K : PySem.W.Frag} {fd : FuncData} {kn : Str} (h : ∀ (s : Shared) (v : Value), BindsTo s fd ⟨[], [(kn, v)]⟩ [(kn, v)]) : KBinds K fd [kn] [kn] kwG kwV := by
  refine ⟨fun s us ws _ hl => ?_, fun {vs us zs ws} r rz => ?_⟩
  · match us, ws, hl with
    | [], [w], _ => exact h s w
    | [], [], hl => exact absurd hl (by simp [kwG])
    | [], _ :: _ :: _, hl => exact absurd hl (by simp [kwG])
    | _ :: _, _, hl => exact absurd hl (by simp [kwG])
  · cases r with
    | nil => exact rz
    | cons _ _ => exact .nil
section
variable {X : Cx} {k : Nat} {f : Addr} {fd : FuncData} {ps ks : List Str} {sp : Sp} {x : Str} {p pos : Pos} {kws : List Keyword} {tk : TA} {g : List Value → List Value → List Value} {gV : List V → List V → List V}
theorem pe_callK0 (F : FnOk X.prog X.w X.K X.mg X.base CX0 k f fd ps sp) (hr : Room k X.A) (hg : Gl X x) (hm : X.mg x = some (.ref f)) (hk : PySem.W.keepIn X.K (.ref f) = true) (hb : KBinds X.K fd ps ks g gV) (hkw : PK X kws tk)
    (hall : (backToKw pos (keywordEach kws X.env)).all (·.1.isSome) = true := by rfl) (hks : (backToKw pos (keywordEach kws X.env)).filterMap (·.1) = ks := by rfl) (hdb : (x == ("__debug__" : Str)) = false := by decide)
    (hpl : ((backTo pos (starEach [] X.env)).any (·.1) || (backToKw pos (keywordEach kws X.env)).any (·.1.isNone)) = false := by rfl) :
    PE X (.Call (.Name x p) [] kws pos) (tCallK sp gV E0 tNil tk) := by
  refine ⟨fun pins s σ H Q I h => wpAny_Call_Name_kw (ld_glob I hg hm ?_ hdb)⟩
  refine PySem.W.callWith_KW0 (h₀ := X.base) I.ok.mod.kin hk hall (thn (hkw.run pos pins s σ H _ I h) fun ws s2 ⟨zs, H2, I2, rz, q2⟩ => ⟨I2.kIn, ?_⟩) hpl
  rw [hks]
  exact run_fnk (us := []) (vs := []) F hr hb pass0 I2 .nil rz q2
end
end L2
namespace KB
open PySem PySem.Spec PyProof.Rows L2 Evl
section
variable {K : PySem.W.Frag} {σ : L2.St} {H H' : Hp} {ta tb te : TE} {tz : TS} {D : Ends}
theorem q_parXX {d1 d2 : PyData} {i j : Nat} (h1 : EvX ta σ H d1) (h2 : EvX tb σ H d2) (k : ∀ v u H1, Ex H H1 → Dx H1 v d1 → Dx H1 u d2 → tz D ((σ.set i (some v)).set j (some u)) H1) : tSeq (tPar i j (tCons ta (tCons tb tNil))) tz D σ H :=
  h1 H (Ex.refl H) _ fun v H1 e1 g1 => h2 H1 e1 _ fun u H2 e2 g2 => ⟨_, _, rfl, k v u H2 (e1.trans e2) (g1.mono e2) g2⟩
theorem q_parXV {d1 : PyData} {v2 : V} {i j : Nat} (h1 : EvX ta σ H d1) (h2 : Ev tb σ H v2) (k : ∀ v H1, Ex H H1 → Dx H1 v d1 → tz D ((σ.set i (some v)).set j (some v2)) H1) : tSeq (tPar i j (tCons ta (tCons tb tNil))) tz D σ H :=
  h1 H (Ex.refl H) _ fun v H1 e1 g1 => h2 H1 e1 _ fun H2 e2 => ⟨_, _, rfl, k v H2 (e1.trans e2) (g1.mono e2)⟩
end
/-! ### sizes -/
theorem ring_len {M : Fam} : ∀ (k : Nat) (row : List Int) (l : Option Int), (ringGo M k row l).1.length ≤ row.length + k
  | 0, row, l => Nat.le_refl _
  | k + 1, row, none => Nat.le_add_right _ _
  | k + 1, row, some x => by
    show (if x ∈ row then (row, some x) else ringGo M k (row ++ [x]) (need M x)).1.length ≤ _
    split
    · exact Nat.le_add_right _ _
    · have := ring_len (M := M) k (row ++ [x]) (need M x)
      rw [List.length_append] at this
      simp at this
      omega
theorem ring_le {M : Fam} {n : Int} {row : List Int} (h : ring M n = some row) : row.length ≤ 65 := by
  unfold ring at h
  dsimp only at h
  split at h
  · have e := Option.some.inj h
    rw [← e]
    have := ring_len (M := M) 64 [n] (need M n)
    simp at this
    omega
  · cases h
/-- a reason of a family: its ring is short -/
def RsOk : Rs → Prop
  | .ring row => row.length ≤ 65
  | _ => True
theorem reasons_ok (M : Fam) : ∀ r ∈ reasons M, RsOk r := fun r m => by
  unfold reasons at m
  rcases List.mem_append.mp m with m | m
  · rcases List.mem_append.mp m with m | m
    · obtain ⟨s, _, m⟩ := List.mem_flatMap.mp m
      obtain ⟨n, _, rfl⟩ := List.mem_map.mp m
      exact True.intro
    · obtain ⟨g, _, rfl⟩ := List.mem_map.mp m
      exact True.intro
  · obtain ⟨row, m2, rfl⟩ := List.mem_map.mp m
    obtain ⟨n, _, e⟩ := List.mem_filterMap.mp m2
    exact ring_le e
theorem barM_ok {M : Fam} {r : Rs} (h : barM M = some r) : RsOk r := reasons_ok M r (List.mem_of_mem_head? h)
theorem sh_ints (k : Nat) (ns : List Int) : ∀ d ∈ ns.map PyData.int, Sh (k + 1) d := fun d m => by
  obtain ⟨n, _, rfl⟩ := List.mem_map.mp m
  exact True.intro
theorem sh_rs {r : Rs} (h : RsOk r) : Sh 3 (rsD r) := by
  cases r with
  | session s n => exact ⟨by show 3 ≤ 1000; omega, fun d m => by simp at m; rcases m with rfl | rfl | rfl <;> exact True.intro⟩
  | group g => exact ⟨by show 2 ≤ 1000; omega, fun d m => by simp at m; rcases m with rfl | rfl <;> exact True.intro⟩
  | ring row =>
    refine ⟨by show 2 ≤ 1000; omega, fun d m => ?_⟩
    simp at m
    rcases m with rfl | rfl
    · exact True.intro
    · refine ⟨by rw [List.length_map]; have : row.length ≤ 65 := h; omega, sh_ints 0 row⟩
theorem sh_opt {M : Fam} : Sh 4 (optD (barM M)) := by
  cases h : barM M with
  | none => exact True.intro
  | some r =>
    have := sh_rs (barM_ok h)
    cases r with
    | session s n => exact ⟨by show 3 ≤ 1000; omega, fun d m => by simp at m; rcases m with rfl | rfl | rfl <;> exact True.intro⟩
    | group g => exact ⟨by show 2 ≤ 1000; omega, fun d m => by simp at m; rcases m with rfl | rfl <;> exact True.intro⟩
    | ring row =>
      refine ⟨by show 2 ≤ 1000; omega, fun d m => ?_⟩
      simp at m
      rcases m with rfl | rfl
      · exact True.intro
      · exact ⟨by rw [List.length_map]; have : row.length ≤ 65 := barM_ok h; omega, sh_ints 1 row⟩
theorem lay_rs (r : Rs) : (rsD r).canLay0 = true ∧ (rsD r).depth ≤ 2 := by
  cases r with
  | session s n => exact ⟨by simp only [rsD, PyData.canLay0, PyData.canLayAll0, Bool.and_true]; decide +kernel, by simp [rsD, PyData.depth, PyData.depthAll]⟩
  | group g => exact ⟨by simp only [rsD, PyData.canLay0, PyData.canLayAll0, Bool.and_true]; decide +kernel, by simp [rsD, PyData.depth, PyData.depthAll]⟩
  | ring row =>
    obtain ⟨a, b⟩ := lay_ints row
    exact ⟨by simp only [rsD, PyData.canLay0, PyData.canLayAll0, Bool.and_true, a]; decide +kernel, by simp [rsD, PyData.depth, PyData.depthAll, b]⟩
theorem shaped_rs (rs : List Rs) : SeqAt.shaped (.list (rs.map rsD)) = true := by
  have h : PyData.canLayAll0 (rs.map rsD) = true ∧ PyData.depthAll (rs.map rsD) ≤ 2 := by
    induction rs with
    | nil => exact ⟨by simp [PyData.canLayAll0], by simp [PyData.depthAll]⟩
    | cons r rs ih =>
      obtain ⟨a, b⟩ := lay_rs r
      refine ⟨by simp only [List.map_cons, PyData.canLayAll0, a, ih.1]; rfl, ?_⟩
      simp only [List.map_cons, PyData.depthAll]
      omega
  show ((PyData.list (rs.map rsD)).canLay0 && decide ((PyData.list (rs.map rsD)).depth ≤ 64)) = true
  have h1 : (PyData.list (rs.map rsD)).canLay0 = true := by simp only [PyData.canLay0]; exact h.1
  have h2 : (PyData.list (rs.map rsD)).depth ≤ 64 := by simp only [PyData.depth]; omega
  rw [h1, decide_eq_true h2]
  rfl
theorem nice_int {i : Int} (h : -1000 ≤ i) (h2 : i ≤ 1000) : Nice 0 (.int i) := by
  show i.natAbs.log2 < 64
  have h3 : i.natAbs < 2 ^ 64 := by omega
  by_cases h0 : i.natAbs = 0
  · rw [h0]; decide
  · exact (Nat.log2_lt h0).mpr h3
/-- small numbers in all rows -/
structure Small (M : Fam) : Prop where
  few : M.length ≤ 20
  row : ∀ r ∈ M, 1 ≤ r.n ∧ r.n ≤ 300 ∧ 0 ≤ r.up ∧ r.up ≤ 300 ∧ 0 ≤ r.s ∧ r.s ≤ 300 ∧ 0 ≤ r.g ∧ r.g ≤ 300
theorem small_of {L : List Ent} (B : Born (rowsL L)) (bd : Bd L) : Small (famL L) := by
  have W := wfL B
  have num : ∀ r ∈ famL L, 2 ≤ r.n ∧ r.n ≤ 199 ∧ 0 ≤ r.s ∧ r.s ≤ 300 ∧ 0 ≤ r.g ∧ r.g ≤ 300 := fun r m => by
    have h1 := W.low r m
    obtain ⟨e, me, rfl⟩ := List.mem_map.mp ((mem_srtR B.nd).mp m)
    have h2 := bd e me
    exact ⟨h1, h2.1, h2.2.1, h2.2.2.1, h2.2.2.2.1, h2.2.2.2.2⟩
  refine ⟨W.few, fun r m => ?_⟩
  have h := num r m
  rcases W.par r m with z | z
  · omega
  · obtain ⟨q, mq, eq⟩ := List.mem_map.mp z
    have h2 := num q mq
    omega
theorem nice_word (w : Nat) : Nice 0 (.str (wordOf w)) := by
  unfold wordOf
  split
  · exact ⟨by decide +kernel, by decide +kernel, by decide +kernel⟩
  · split
    · exact ⟨by decide +kernel, by decide +kernel, by decide +kernel⟩
    · exact ⟨by decide +kernel, by decide +kernel, by decide +kernel⟩
theorem Nice.to {k : Nat} {d : PyData} (h : Nice 0 d) : Nice k d := by
  induction k with
  | zero => exact h
  | succ k ih => exact ih.up
theorem nice_sq {k : Nat} {b : Bool} {ds : List PyData} (h : ds.length ≤ 20) (h2 : ∀ d ∈ ds, Nice k d) : Nice (k + 1) (sqD b ds) := by
  cases b with
  | true => exact ⟨h, h2⟩
  | false => exact ⟨h, h2⟩
theorem nice_row {M : Fam} (S : Small M) {r : Rw} (m : r ∈ M) (b : Bool) : Nice 2 (rowDt b r) := by
  have h := S.row r m
  refine nice_sq (by show 10 ≤ 20; decide) fun d md => ?_
  have nint : ∀ {i : Int}, -1000 ≤ i → i ≤ 1000 → Nice 1 (.int i) := fun a b => (nice_int a b).to
  have nn : Nice 1 PyData.none := True.intro
  simp only [List.mem_cons, List.not_mem_nil, or_false] at md
  rcases md with rfl | rfl | rfl | rfl | rfl | rfl | rfl | rfl | rfl | rfl
  · exact nint (by omega) (by omega)
  · split
    · exact nn
    · exact nint (by omega) (by omega)
  · exact nint (by omega) (by omega)
  · exact nint (by omega) (by omega)
  · exact True.intro
  · exact (nice_word r.w).to
  · split
    · exact nint (by omega) (by omega)
    · exact nn
  · exact nn
  · refine nice_sq (by split <;> decide) fun d md => ?_
    split at md
    · cases md
    · simp only [List.mem_cons, List.not_mem_nil, or_false] at md
      rcases md with rfl | rfl | rfl | rfl <;> exact nice_int (by decide) (by decide)
  · exact nice_sq (by decide) fun d md => nomatch md
theorem nice_img {M : Fam} (S : Small M) (b : Bool) : Nice 4 (imgD b M) := by
  have e0 : Nice 3 (sqD b []) := nice_sq (by decide) fun d md => nomatch md
  refine nice_sq (by show 6 ≤ 20; decide) fun d md => ?_
  simp only [List.mem_cons, List.not_mem_nil, or_false] at md
  rcases md with rfl | rfl | rfl | rfl | rfl | rfl
  · refine nice_sq (by rw [List.length_map]; exact S.few) fun d md => ?_
    obtain ⟨r, mr, rfl⟩ := List.mem_map.mp md
    exact nice_row S mr b
  all_goals exact e0
theorem Nice.sh : ∀ {k : Nat} {d : PyData}, Nice k d → Sh (k + 1) d
  | _, .none, _ => True.intro
  | _, .bool _, _ => True.intro
  | _, .int _, _ => True.intro
  | _, .str _, _ => True.intro
  | 0, .list _, h => by simp [Nice] at h
  | 0, .tuple _, h => by simp [Nice] at h
  | k + 1, .list ds, h => by
    have h2 : ds.length ≤ 20 ∧ ∀ d ∈ ds, Nice k d := by simpa [Nice] using h
    exact ⟨by omega, fun d m => Nice.sh (h2.2 d m)⟩
  | k + 1, .tuple ds, h => by
    have h2 : ds.length ≤ 20 ∧ ∀ d ∈ ds, Nice k d := by simpa [Nice] using h
    exact ⟨by omega, fun d m => Nice.sh (h2.2 d m)⟩
  | _, .dict _, h => by simp [Nice] at h
theorem lists_sq (ds : List PyData) : listsD (sqD true ds) = sqD false (ds.map listsD) := by
  show listsD (.tuple ds) = .list _
  simp only [listsD, listsAll_map]
theorem lists_row (r : Rw) : listsD (rowDt true r) = rowDt false r := by
  have c : listsD (cellsD true r) = cellsD false r := by
    unfold cellsD
    rw [lists_sq]
    split <;> simp [listsD]
  have e : listsD (sqD true []) = sqD false [] := by rw [lists_sq]; rfl
  unfold rowDt
  rw [lists_sq]
  simp only [List.map_cons, List.map_nil, c, e]
  have a1 : listsD (if r.up = 1 then .none else .int r.up) = (if r.up = 1 then .none else .int r.up) := by split <;> simp [listsD]
  have a2 : listsD (if r.w = 1 then .int (r.n - 9) else .none) = (if r.w = 1 then .int (r.n - 9) else .none) := by split <;> simp [listsD]
  rw [a1, a2]
  simp [listsD]
theorem lists_img (M : Fam) : listsD (imgD true M) = imgD false M := by
  have e : listsD (sqD true []) = sqD false [] := by rw [lists_sq]; rfl
  unfold imgD
  rw [lists_sq]
  simp only [List.map_cons, List.map_nil, e]
  rw [lists_sq, List.map_map]
  rw [show (listsD ∘ rowDt true) = rowDt false from funext lists_row]
end KB
set_option Elab.async false
set_option linter.all false
set_option maxRecDepth 100000
set_option maxHeartbeats 4000000
namespace KB
open PySem PySem.Spec PyProof.Rows L2 Evl
section
variable {K : PySem.W.Frag} {σ : L2.St} {H H' : Hp} {ta tb te : TE} {t : TT} {tz : TS} {D : Ends}
theorem ex_if {b : Bool} {d : PyData} (h : EvT t σ H b) (h1 : b = true → EvX ta σ H d) (h2 : b = false → EvX tb σ H d) : EvX (tIf t ta tb) σ H d := fun H1 e Q q => h H1 e _ fun H2 e2 => by
  cases b with
  | true =>
    show ta σ H2 Q
    exact h1 rfl H2 (e.trans e2) Q fun v H3 e3 g => q v H3 (e2.trans e3) g
  | false =>
    show tb σ H2 Q
    exact h2 rfl H2 (e.trans e2) Q fun v H3 e3 g => q v H3 (e2.trans e3) g
theorem ex_lst2 {d1 d2 : PyData} (h1 : EvX ta σ H d1) (h2 : EvX tb σ H d2) : EvX (tLst (tCons ta (tCons tb tNil))) σ H (.list [d1, d2]) := fun H1 e Q q =>
  h1 H1 e _ fun v H2 e2 g2 => h2 H2 (e.trans e2) _ fun u H3 e3 g3 => ⟨by show 2 ≤ sizeLine; decide, fun l nl => q _ _ ((e2.trans e3).trans (Ex.new nl)) (.lst upd_same (.cons ((g2.mono e3).mono (Ex.new nl)) (.cons (g3.mono (Ex.new nl)) .nil)))⟩
theorem ev_same {n : Nat} {d : PyData} (h1 : EvX ta σ H d) (h2 : EvX tb σ H d) (hs : Sh n d) : Ev (tCall (spSame n) [] E0 (tCons ta (tCons tb tNil))) σ H (.bl true) := fun H1 e Q q =>
  h1 H1 e _ fun v H2 e2 g2 => h2 H2 (e.trans e2) _ fun u H3 e3 g3 => ⟨v, u, d, rfl, g2.mono e3, g3, hs, fun H' s => q H' ((e2.trans e3).trans s)⟩
theorem ev_repr {v : V} {d : PyData} {k : Nat} (h : Ev ta σ H v) (g : Dx H v d) (n : Nice k d) (hk : k ≤ 4) : Ev (tCB (rRepr K) (tCons ta tNil)) σ H (.str d.shown) := fun H1 e Q q =>
  h H1 e _ fun H2 e2 => by
    obtain ⟨a, b, c, f, g', i⟩ := nice_facts (K := K) (g.mono (e.trans e2)) n hk
    exact ⟨v, d, rfl, a, b, c, f, g', i, q H2 e2⟩
theorem ex_lists {n : Nat} {v : V} {d : PyData} (h : Ev ta σ H v) (g : Dx H v d) (hs : Sh n d) : EvX (tCall (spLists n) [] E0 (tCons ta tNil)) σ H (listsD d) := fun H1 e Q q =>
  h H1 e _ fun H2 e2 => ⟨v, d, [], rfl, by rw [mask_nil]; exact g.mono (e.trans e2), (fun b m => nomatch m), hs, fun v' H' e3 g3 => q v' H' (e2.trans e3) (by rw [mask_nil] at g3; exact g3)⟩
/-- xs != [], of data -/
theorem et_nenilD {v : V} {ds : List PyData} (h : Ev ta σ H v) (g : Dx H v (.list ds)) (sh : SeqAt.shaped (.list ds) = true) : EvT (tTest (tOp (rNeD K) ta (tLst tNil))) σ H (!decide (ds = [])) := by
  refine et_test (ev_opL h (el_lst ea_nil (by show 0 ≤ 100000; omega)) fun p H1 hp e1 => rv_val fun H2 e2 Q q => ⟨.list ds, .list [], (g.mono (e1.trans e2)).dp, .lst (sq_of (e2 _ _ hp)) .nil, sh, rfl, ?_⟩)
  have : PyData.eqv (.list ds) (.list []) = decide (ds = []) := by
    cases ds <;> simp [PyData.eqv, PyData.eqvAll]
  rw [this]
  exact q
/-- x != f(), equal data -/
theorem ev_neX {v : V} {d : PyData} {k : Nat} (h : Ev ta σ H v) (g : Dx H v d) (h2 : EvX tb σ H d) (n : Nice k d) (hk : k ≤ 4) : Ev (tOp (rNeD K) ta tb) σ H (.bl false) := fun H1 e Q q =>
  h H1 e _ fun H2 e2 => h2 H2 (e.trans e2) _ fun u H3 e3 g3 => by
    obtain ⟨_, b, _⟩ := nice_facts (K := K) g3 n hk
    refine ⟨d, d, ((g.mono (e.trans e2)).mono e3).dp, g3.dp, b, b, ?_⟩
    rw [SeqAt.eqv_refl d n.show.1.2]
    exact q H3 (e2.trans e3)
end
end KB
namespace L2
open PySem PySem.Spec PyProof.Rows
def kwG2 : List Value → List Value → List Value := fun us ws => match us, ws with | [], [t, i] => [i, t] | _, _ => []
def kwV2 : List V → List V → List V := fun us ws => match us, ws with | [], [t, i] => [i, t] | _, _ => []
theorem kw_two {K : PySem.W.Frag} {fd : FuncData} {a b : Str} (h : ∀ (s : Shared) (v u : Value), BindsTo s fd ⟨[], [(b, v), (a, u)]⟩ [(a, u), (b, v)]) : KBinds K fd [a, b] [b, a] kwG2 kwV2 := by
  refine ⟨fun s us ws _ hl => ?_, fun {vs us zs ws} r rz => ?_⟩
  · match us, ws, hl with
    | [], [v, u], _ => exact h s v u
    | [], [], hl => exact absurd hl (by simp [kwG2])
    | [], [_], hl => exact absurd hl (by simp [kwG2])
    | [], _ :: _ :: _ :: _, hl => exact absurd hl (by simp [kwG2])
    | _ :: _, _, hl => exact absurd hl (by simp [kwG2])
  · cases r with
    | nil =>
      cases rz with
      | nil => exact .nil
      | cons h1 t1 =>
        cases t1 with
        | nil => exact .nil
        | cons h2 t2 =>
          cases t2 with
          | nil => exact .cons h2 (.cons h1 .nil)
          | cons _ _ => exact .nil
    | cons _ _ => exact .nil
end L2
set_option Elab.async false
set_option linter.all false
set_option maxRecDepth 100000
set_option maxHeartbeats 4000000
namespace L2
open PySem PySem.Spec PyProof.Rows
/-- a def of the module -/
structure Kf (P : Program) (w : World) (K : PySem.W.Frag) (mg : Str → Option Value) (base : Heap) (L : Nat) (x : Str) (ps : List Str) (sp : Sp) : Prop where
  ex : ∃ k f fd, k ≤ L ∧ FnOk P w K mg base CX0 k f fd ps sp ∧ Binds K fd ps [] ∧ PySem.W.keepIn K (.ref f) = true ∧ mg x = some (.ref f)
/-- a class that is made -/
structure Kc (P : Program) (w : World) (K : PySem.W.Frag) (mg : Str → Option Value) (base : Heap) (L : Nat) (C : Addr) (x : Str) (ps : List Str) (sp : Sp) : Prop where
  ex : ∃ k f fd, k + 1 ≤ L ∧ FnOk P w K mg base CX0 k f fd ps sp ∧ Binds K fd ps [] ∧ Mk K C f ∧ mg x = some (.ref C)
section
variable {X : Cx} {L : Nat} {C : Addr} {ps : List Str} {sp : Sp} {x m : Str} {p pos apos : Pos} {e o : Expr} {es : List Expr} {ta : TE} {t : TA}
theorem pe_fn (G : Kf X.prog X.w X.K X.mg X.base L x ps sp) (hr : Room L X.A) (ha : PA X (e :: es) t) (hg : Gl X x := by rfl) (hdb : (x == ("__debug__" : Str)) = false := by decide)
    (he : starEach (e :: es) X.env = (false, eval e X.env) :: starEach es X.env := by rfl) (hpl : (backTo pos (starEach es X.env)).any (·.1) = false := by rfl) : PE X (.Call (.Name x p) (e :: es) [] pos) (tCall sp [] E0 t) := by
  obtain ⟨k, f, fd, hk, F, b, kp, mg⟩ := G.ex
  exact pe_call F (hr.mono hk) hg mg kp b .nil pass0 ha hdb he hpl
theorem pe_mk (G : Kc X.prog X.w X.K X.mg X.base L C x ps sp) (hr : Room L X.A) (ha : PA X (e :: es) t) (hg : Gl X x := by rfl) (hdb : (x == ("__debug__" : Str)) = false := by decide)
    (he : starEach (e :: es) X.env = (false, eval e X.env) :: starEach es X.env := by rfl) (hpl : (backTo pos (starEach es X.env)).any (·.1) = false := by rfl) : PE X (.Call (.Name x p) (e :: es) [] pos) (tMake C sp [] E0 t) := by
  obtain ⟨k, f, fd, hk, F, b, M, mg⟩ := G.ex
  exact pe_make M F (hr.mono hk) hg mg b .nil pass0 ha hdb he hpl
end
/-- min(xs, default=None) of a list of ints: None of none, else one of them -/
def rMinDef (K : PySem.W.Frag) : List V → List V → Hp → VK → Prop := fun vs zs H Q => ∃ (a : Addr) (ns : List Int), vs = [V.ref a] ∧ zs = [.non] ∧ SqL K H a (ns.map V.int) ∧ (ns = [] → Q .non H) ∧ ∀ m, m ∈ ns → Q (.int m) H
theorem dp_ints {K : PySem.W.Frag} {H : Hp} : ∀ ns : List Int, DpAll K H (ns.map V.int) (ns.map PyData.int)
  | [] => .nil
  | n :: ns => .cons (.int n) (dp_ints ns)
theorem depth_ints : ∀ ns : List Int, PyData.depthAll (ns.map PyData.int) ≤ 1
  | [] => by simp [PyData.depthAll]
  | n :: ns => by
    have := depth_ints ns
    simp only [List.map_cons, PyData.depthAll, PyData.depth]
    omega
theorem cr_minDef {X : Cx} (hc : X.calm = true) (hu : X.A.units + 2 < cLine) : CallRK X (.builtin "min") [Str.ofString "default"] (rMinDef X.K) := by
  intro pins s σ H vs zs us ws Q I r rz h
  obtain ⟨a, ns, rfl, rfl, hs, q0, q1⟩ := h
  obtain rfl := Vals.ref1 r
  obtain ⟨w1, rfl, e1⟩ := vals1 rz
  obtain rfl : w1 = Value.none := e1
  obtain ⟨its, rv, hl, hz⟩ := I.list hs
  have hi := rv.ints
  obtain ⟨as, rd⟩ := Dp.readsAll I (ns.map PyData.int) (ns.map V.int) its (dp_ints ns) rv
  refine PySem.W.min_list_default (I.ok.hd hc) hl.isList (by simpa using rd) ⟨fun x mx y my => ?_, fun x mx => ?_⟩ ?_ (fun e h' tk hk => ?_) fun y ys i v h' tk bs e hv hr hk => ?_
  · obtain ⟨n, _, rfl⟩ := List.mem_map.mp mx
    obtain ⟨m, _, rfl⟩ := List.mem_map.mp my
    rfl
  · obtain ⟨n, _, rfl⟩ := List.mem_map.mp mx
    exact fun z => nomatch z
  · have := depth_ints ns
    omega
  · have : ns = [] := by simpa using e
    exact ⟨.non, H, I.kept hk, rfl, q0 this⟩
  · obtain ⟨n, t, rfl, hn⟩ := hi.at i v (by simpa using hv)
    exact ⟨.int n, H, I.kept hk, ⟨t, rfl⟩, q1 n (List.mem_of_getElem? hn)⟩
end L2
set_option Elab.async false
set_option linter.all false
set_option maxRecDepth 100000
set_option maxHeartbeats 4000000
namespace KB
open PySem PySem.Spec PyProof.Rows L2 Evl
/-! ### helpers: what they are -/
def lostB (M : Fam) (s : Int) : Bool := !decide (s = 1) && !decide (s ∈ keys M)
def lost (M : Fam) : List Int := (sessions M).filter (lostB M)
def emptyB (M : Fam) (g : Int) : Bool := !decide (g = 1) && (!decide (g ∈ keys M) && !decide (g ∈ lost M))
def empties (M : Fam) : List Int := (groups M).filter (emptyB M)
def ownG (M : Fam) (s : Int) : List Int := ((keys M).filter fun n => decide (ses M n = s)).map (grp M)
def emptiesIn (M : Fam) (s : Int) : List Int := (empties M).filter fun g => decide (g ∈ ownG M s)
theorem WF.end_ {M : Fam} {r : Rw} (W : WF M) (m : r ∈ M) : end? M r.n = decide (r.w = 1) := by unfold end?; rw [look_of W.asc m]; rfl
theorem word_ended (n : Nat) : decide (V.str (wordOf n) = V.str "ended") = decide (n = 1) := by
  unfold wordOf
  by_cases h : n = 1
  · simp [h]
  · rw [if_neg h, decide_eq_false h]
    split <;> decide +kernel
theorem ses_few {M : Fam} (W : WF M) : (sessions M).length ≤ 20 := by
  have h := len_asc (M.map (·.s))
  rw [List.length_map] at h
  have := W.few
  unfold sessions
  omega
theorem grp_few {M : Fam} (W : WF M) : (groups M).length ≤ 20 := by
  have h := len_asc (M.map (·.g))
  rw [List.length_map] at h
  have := W.few
  unfold groups
  omega
section
variable {K : PySem.W.Frag} {σ : L2.St} {H H' : Hp} {C k : Addr} {M : Fam} {ta tb : TE} {n : Int}
theorem rv_ixR {p : Addr} {xs : List V} {i : Nat} {v : V} (h : H p = some (.tup xs) ∨ H p = some (.lst xs)) (ha : xs[i]? = some v) : RV (rIx K) (.ref p) (.int (i : Int)) H v := fun H1 e _ q => by
  rcases h with h | h
  · exact .inr (.inl ⟨p, xs, _, v, rfl, rfl, st_of (e _ _ h), atI_nat ha, q H1 (Ex.refl H1)⟩)
  · exact .inl ⟨p, xs, _, v, rfl, rfl, sq_of (e _ _ h), atI_nat ha, q H1 (Ex.refl H1)⟩
theorem kn_nin (T : KT K C) (N : Kn H C k M) (hk : Ev ta σ H (.ref k)) (hb : Ev tb σ H (.int n)) : Ev (tDNotIn tb (tFld K ta "rows")) σ H (.bl (!decide (n ∈ keys M))) := by
  obtain ⟨dx, a1, a2, a3, a4, a5, a6, root, k1, k3, k4, k5, k6, h0, h1, h2, h3, h4, h5, h6, r1, _⟩ := N.is
  rw [← r1 n]
  exact fun H1 e Q q => hb H1 e _ fun H2 e2 => ev_fld hk h0 T.cls T.n1 rfl H2 (e.trans e2) _ fun H3 e3 => ⟨a1, _, rfl, DGet.k (k := Sum.inl n) (((e.trans e2).trans e3) _ _ h1), q H3 (e2.trans e3)⟩
theorem kn_word (T : KT K C) (N : Kn H C k M) (W : WF M) (hk : Ev ta σ H (.ref k)) (hb : Ev tb σ H (.int n)) (m : n ∈ keys M) : ∃ r ∈ M, r.n = n ∧ Ev (tOp (rIx K) (tDGet (tFld K ta "rows") tb) (tC (.int 5))) σ H (.str (wordOf r.w)) := by
  obtain ⟨dx, a1, a2, a3, a4, a5, a6, root, k1, k3, k4, k5, k6, h0, h1, h2, h3, h4, h5, h6, r1, r2, _⟩ := N.is
  obtain ⟨r, mr, rfl⟩ := W.row m
  obtain ⟨v, ev, a, xs, rfl, ha, _, _, _, _, _, _, x5⟩ := r2 r mr
  exact ⟨r, mr, rfl, ev_op (ev_dget (ev_fld hk h0 T.cls T.n1 rfl) hb h1 ev) ev_c (rv_ixR (i := 5) ha x5)⟩
end
abbrev sIsLost : Stmt := topS 6
theorem scIsLost : FnScope ["kin", "session"] ["kin", "session"] (defScope sIsLost) := ⟨rfl, rfl, rfl, by decide +kernel, rfl, by decide +kernel, by decide +kernel⟩
abbrev sEnded : Stmt := topS 12
theorem scEnded : FnScope ["kin", "number"] ["kin", "number"] (defScope sEnded) := ⟨rfl, rfl, rfl, by decide +kernel, rfl, by decide +kernel, by decide +kernel⟩
abbrev sLost : Stmt := topS 13
abbrev nLost : List Str := ["kin", "session"]
theorem scLost : FnScope nLost ["kin"] (defScope sLost) := ⟨rfl, rfl, rfl, by decide +kernel, rfl, by decide +kernel, by decide +kernel⟩
abbrev sEmpties : Stmt := topS 14
abbrev nEmpties : List Str := ["kin", "lost", "group"]
theorem scEmpties : FnScope nEmpties ["kin"] (defScope sEmpties) := ⟨rfl, rfl, rfl, by decide +kernel, rfl, by decide +kernel, by decide +kernel⟩
def spIsLost (C : Addr) : Sp := fun vs H Q _ => ∃ k M s, vs = [.ref k, .int s] ∧ Kn H C k M ∧ RetV (.bl (lostB M s)) H Q
def spEnded (C : Addr) : Sp := fun vs H Q _ => ∃ k M n, vs = [.ref k, .int n] ∧ Kn H C k M ∧ WF M ∧ n ∈ keys M ∧ RetV (.bl (end? M n)) H Q
def spLost (C : Addr) : Sp := fun vs H Q _ => ∃ k M, vs = [.ref k] ∧ Kn H C k M ∧ WF M ∧ RetL ((lost M).map V.int) H Q
def spEmpties (C : Addr) : Sp := fun vs H Q _ => ∃ k M, vs = [.ref k] ∧ Kn H C k M ∧ WF M ∧ RetL ((empties M).map V.int) H Q
section
variable {P : Program} {w : World} {K : PySem.W.Frag} {mg : Str → Option Value} {base : Heap} {C f : Addr} {fd : FuncData} {t0 : Tok}
theorem ok_isLost (F : Fun K "is_lost" "is_lost" sIsLost f fd) (T : KT K C) (m_FIRST : mg "FIRST" = some (.int 1 t0)) (G_is_led : Kf P w K mg base 1 "is_led" ["kin", "session"] (spIsLed C)) : FnOk P w K mg base CX0 2 f fd ["kin", "session"] (spIsLost C) := by
  refine F.ok scIsLost (fun vs H Q E h => ?_) (fun cdv A outer s H vs Q E hr h => ?_)
  · obtain ⟨k, M, n, rfl, _⟩ := h
    rfl
  · obtain ⟨k, M, n, rfl, N, q⟩ := h
    refine ⟨_, (pss_one (ps_ret (pe_and (pe_cmpR op_ne (pv 1) (pe_glob (v := .int 1) rfl m_FIRST ⟨_, rfl⟩) (nomark _)) (pe_one (pe_not (pe_fn G_is_led (hr.mono (by decide)) (pa_cons (pv 0) (pa_cons (pv 1) pa_nil)))))))), ?_⟩
    have c : SpV (spIsLed C) ([.ref k, .int n] ++ []) H (.bl (decide (n ∈ keys M))) := fun H2 e2 Q q E => ⟨k, M, n, rfl, N.mono e2, q⟩
    refine s_ret (ev_is (ev_andV (ev_op (ev_var rfl) ev_c (rv_ne rfl)) fun _ => ev_notV (ev_call (ea_cons (ev_var rfl) (ea_cons (ev_var rfl) ea_nil)) c)) ?_) fun H1 e1 => q H1 e1
    unfold lostB
    rw [dec_int]
theorem ok_ended (F : Fun K "has_ended" "has_ended" sEnded f fd) (T : KT K C) : FnOk P w K mg base CX0 1 f fd ["kin", "number"] (spEnded C) := by
  refine F.ok scEnded (fun vs H Q E h => ?_) (fun cdv A outer s H vs Q E hr h => ?_)
  · obtain ⟨k, M, n, rfl, _⟩ := h
    rfl
  · obtain ⟨k, M, n, rfl, N, W, m, q⟩ := h
    have hu := hu_of hr
    refine ⟨_, (pss_one (ps_ret (pe_cmpR op_eq (pe_ix ix_seq (pe_dget hu (pe_fld (pv 0) rfl) (pv 1) (fun _ _ => rfl)) pe_int (fun _ _ => rfl)) pe_str (nomark _)))), ?_⟩
    obtain ⟨r, mr, rfl, ev⟩ := kn_word (ta := tVar 0) (tb := tVar 1) (σ := start ["kin", "number"] [.ref k, .int n]) T N W (ev_var rfl) (ev_var rfl) m
    refine s_ret (ev_is (ev_op ev ev_c (rv_eq rfl)) ?_) fun H1 e1 => q H1 e1
    rw [word_ended, W.end_ mr]
theorem ok_lost (F : Fun K "lost_sessions" "lost_sessions" sLost f fd) (T : KT K C) (G_sessions_of : Kf P w K mg base 1 "sessions_of" ["kin"] (spSessions C)) (G_is_lost : Kf P w K mg base 2 "is_lost" ["kin", "session"] (spIsLost C)) : FnOk P w K mg base CX0 3 f fd ["kin"] (spLost C) := by
  refine F.ok scLost (fun vs H Q E h => ?_) (fun cdv A outer s H vs Q E hr h => ?_)
  · obtain ⟨k, M, rfl, _⟩ := h
    rfl
  · obtain ⟨k, M, rfl, N, W, q⟩ := h
    have nd := scLost.nd
    refine ⟨_, (pss_one (ps_ret (pe_lc (own := [("session", 1)]) (g := gName 1) (tt := tB (tCall (spIsLost C) [] E0 (tCons (tVar 0) (tCons (tVar 1) tNil)))) (te := tVar 1) rfl nd (pi_list (pe_fn G_sessions_of (hr.mono (by decide)) (pa_cons (pv 0) pa_nil))) (blkOk_by (N := nLost) (sc := defScope sLost) (by decide +kernel)) (fun _ _ _ _ _ => (pg_name (i := 1) nd rfl (by first | exact .inl rfl | exact .inr rfl))) (fun _ _ _ _ _ => (pts_one (pt_val (pe_fn G_is_lost (hr.mono (by decide)) (pa_cons (pv 0) (pa_cons (pv 1) pa_nil)))))) (fun _ _ _ _ _ => (pv 1))))), ?_⟩
    have c : SpL (spSessions C) ([.ref k] ++ []) H ((sessions M).map V.int) := fun H2 e2 Q q E => ⟨k, M, rfl, N.mono e2, W, q⟩
    have few := ses_few W
    refine s_retL (el_lcGN (K := K) (j := 1) (vs := [1]) V.int (lostB M) V.int (el_call (ea_cons (ev_var rfl) ea_nil) c) (by omega) (fun x => rfl) (fun b mb H1 e1 => ?_) (fun b mb _ H1 e1 => ev_var rfl)) fun p H1 hp e h1 => q p H1 hp e h1
    have c2 : SpV (spIsLost C) ([.ref k, .int b] ++ []) H1 (.bl (lostB M b)) := fun H2 e2 Q q E => ⟨k, M, b, rfl, N.mono (e1.trans e2), q⟩
    exact et_B (ev_call (ea_cons (ev_var rfl) (ea_cons (ev_var rfl) ea_nil)) c2)
theorem ok_empties (F : Fun K "helper_groups" "helper_groups" sEmpties f fd) (T : KT K C) (m_FIRST : mg "FIRST" = some (.int 1 t0)) (G_groups_of : Kf P w K mg base 1 "groups_of" ["kin"] (spGroups C)) (G_lost_sessions : Kf P w K mg base 3 "lost_sessions" ["kin"] (spLost C)) : FnOk P w K mg base CX0 4 f fd ["kin"] (spEmpties C) := by
  refine F.ok scEmpties (fun vs H Q E h => ?_) (fun cdv A outer s H vs Q E hr h => ?_)
  · obtain ⟨k, M, rfl, _⟩ := h
    rfl
  · obtain ⟨k, M, rfl, N, W, q⟩ := h
    have nd := scEmpties.nd
    have hu := hu_of hr
    refine ⟨_, (pss_cons (ps_set (i := 1) nd rfl (by first | exact .inl rfl | exact .inr rfl) (pe_fn G_lost_sessions (hr.mono (by decide)) (pa_cons (pv 0) pa_nil)))
      (pss_one (ps_ret (pe_lc (own := [("group", 2)]) (g := gName 2) (tt := tAnd (tTest (tOp rNe (tVar 2) (tC (.int 1)))) (tAnd (tB (tDNotIn (tVar 2) (tFld K (tVar 0) "rows"))) (tTest (tOp (rIn K true) (tVar 2) (tVar 1))))) (te := tVar 2) rfl nd (pi_list (pe_fn G_groups_of (hr.mono (by decide)) (pa_cons (pv 0) pa_nil))) (blkOk_by (N := nEmpties) (sc := defScope sEmpties) (by decide +kernel)) (fun _ _ _ _ _ => (pg_name (i := 2) nd rfl (by first | exact .inl rfl | exact .inr rfl))) (fun _ _ _ _ _ => (pts_one (PW.pt (pw_and (pt_cmpR op_ne (pv 2) (pe_glob (v := .int 1) rfl m_FIRST ⟨_, rfl⟩) (nomark _)) (pw_and (pt_cmp (pc_dnotin hu (pv 2) (pe_fld (pv 0) rfl))) (pw_and1 (pt_cmpR op_notIn_seq (pv 2) (pv 1) (by rfl)))))))) (fun _ _ _ _ _ => (pv 2)))))), ?_⟩
    have c0 : SpL (spLost C) ([.ref k] ++ []) H ((lost M).map V.int) := fun H2 e2 Q q E => ⟨k, M, rfl, N.mono e2, W, q⟩
    refine q_asgL (el_call (ea_cons (ev_var rfl) ea_nil) c0) fun p H1 np e1 g1 => ?_
    have N1 := N.mono e1
    have c : SpL (spGroups C) ([.ref k] ++ []) H1 ((groups M).map V.int) := fun H2 e2 Q q E => ⟨k, M, rfl, N1.mono e2, W, q⟩
    have few := grp_few W
    refine s_retL (el_lcGN (K := K) (j := 2) (vs := [2]) V.int (emptyB M) V.int (el_call (ea_cons (ev_var rfl) ea_nil) c) (by omega) (fun x => rfl) (fun b mb H2 e2 => ?_) (fun b mb _ H2 e2 => ev_var rfl)) fun p2 H2 hp e h1 => q p2 H2 (fresh_back e1 hp) (e1.trans e) h1
    refine et_is (et_and (et_test (ev_op (ev_var rfl) ev_c (rv_ne rfl))) fun _ => et_and (et_B (kn_nin T (N1.mono e2) (ev_var rfl) (ev_var rfl))) fun _ => et_test (ev_op (ev_var rfl) (ev_var rfl) (rv_niL (sq_of (e2 _ _ g1)) rfl (flat_ints (lost M))))) ?_
    unfold emptyB
    rw [dec_int, inV_ints]
end
end KB
set_option Elab.async false
set_option linter.all false
set_option maxRecDepth 100000
set_option maxHeartbeats 4000000
namespace KB
open PySem PySem.Spec PyProof.Rows L2 Evl
/-- the first place of a number -/
def placeOf (l : Int) : List Int → Nat
  | [] => 0
  | a :: r => if a = l then 0 else placeOf l r + 1
theorem place_at {l : Int} : ∀ {xs : List Int}, l ∈ xs → xs[placeOf l xs]? = some l ∧ ∀ j, j < placeOf l xs → ∀ y, xs[j]? = some y → y ≠ l
  | [], h => by cases h
  | a :: r, h => by
    unfold placeOf
    by_cases e : a = l
    · rw [if_pos e]
      exact ⟨by simp [e], fun j hj => absurd hj (Nat.not_lt_zero _)⟩
    · rw [if_neg e]
      have h2 : l ∈ r := (List.mem_cons.mp h).resolve_left (fun z => e z.symm)
      obtain ⟨p1, p2⟩ := place_at h2
      refine ⟨by simpa using p1, fun j hj y hy => ?_⟩
      cases j with
      | zero =>
        simp at hy
        rw [← hy]; exact e
      | succ j => exact p2 j (by omega) y (by simpa using hy)
/-- whether n can bear the further tops of l's session -/
def bearB (M : Fam) (n l : Int) : Bool := (decide (ses M n = l) && end? M n) && (decide (n = l) || (decide (l ∈ above M n) && ((above M n).take (placeOf l (above M n) + 1)).all fun a => decide (ses M a = l) && !ado M a))
def bearers (M : Fam) (l : Int) : List Int := (keys M).filter fun n => bearB M n l
abbrev sEmptiesIn : Stmt := topS 15
abbrev nEmptiesIn : List Str := ["kin", "session", "at", "own", "group"]
theorem scEmptiesIn : FnScope nEmptiesIn ["kin", "session"] (defScope sEmptiesIn) := ⟨rfl, rfl, rfl, by decide +kernel, rfl, by decide +kernel, by decide +kernel⟩
abbrev sBear : Stmt := topS 16
abbrev nBear : List Str := ["kin", "number", "leader", "above", "between", "at"]
theorem scBear : FnScope nBear ["kin", "number", "leader"] (defScope sBear) := ⟨rfl, rfl, rfl, by decide +kernel, rfl, by decide +kernel, by decide +kernel⟩
abbrev sBearer : Stmt := topS 17
abbrev nBearer : List Str := ["kin", "leader", "at"]
theorem scBearer : FnScope nBearer ["kin", "leader"] (defScope sBearer) := ⟨rfl, rfl, rfl, by decide +kernel, rfl, by decide +kernel, by decide +kernel⟩
def spEmptiesIn (C : Addr) : Sp := fun vs H Q _ => ∃ k M s, vs = [.ref k, .int s] ∧ Kn H C k M ∧ WF M ∧ RetL ((emptiesIn M s).map V.int) H Q
def spBear (C : Addr) : Sp := fun vs H Q _ => ∃ k M n l, vs = [.ref k, .int n, .int l] ∧ Kn H C k M ∧ WF M ∧ n ∈ keys M ∧ RetV (.bl (bearB M n l)) H Q
def spBearer (C : Addr) : Sp := fun vs H Q _ => ∃ k M l, vs = [.ref k, .int l] ∧ Kn H C k M ∧ WF M ∧ ∀ v H2, Ex H H2 → decide (v = .non) = decide (bearers M l = []) → Q v H2
theorem ints_get {xs : List Int} {j : Nat} {v : V} (h : (xs.map V.int)[j]? = some v) : ∃ b, xs[j]? = some b ∧ v = .int b := by
  rw [List.getElem?_map] at h
  obtain ⟨b, e, rfl⟩ := Option.map_eq_some_iff.mp h
  exact ⟨b, e, rfl⟩
section
variable {P : Program} {w : World} {K : PySem.W.Frag} {mg : Str → Option Value} {base : Heap} {C f : Addr} {fd : FuncData} {t0 : Tok}
theorem ok_emptiesIn (F : Fun K "helper_groups_in" "helper_groups_in" sEmptiesIn f fd) (T : KT K C) (G_helper_groups : Kf P w K mg base 4 "helper_groups" ["kin"] (spEmpties C)) : FnOk P w K mg base CX0 5 f fd ["kin", "session"] (spEmptiesIn C) := by
  refine F.ok scEmptiesIn (fun vs H Q E h => ?_) (fun cdv A outer s H vs Q E hr h => ?_)
  · obtain ⟨k, M, n, rfl, _⟩ := h
    rfl
  · obtain ⟨k, M, n, rfl, N, W, q⟩ := h
    have nd := scEmptiesIn.nd
    have hu := hu_of hr
    refine ⟨_, (pss_cons (ps_set (i := 3) nd rfl (by first | exact .inl rfl | exact .inr rfl) (pe_lc (own := [("at", 2)]) (g := gName 2) (tt := tTest (tOp rEq (tDGet (tFld K (tVar 0) "sessions") (tVar 2)) (tVar 1))) (te := tDGet (tFld K (tVar 0) "groups") (tVar 2)) rfl nd (pi_list (pe_fld (pv 0) rfl)) (blkOk_by (N := nEmptiesIn) (sc := defScope sEmptiesIn) (by decide +kernel)) (fun _ _ _ _ _ => (pg_name (i := 2) nd rfl (by first | exact .inl rfl | exact .inr rfl))) (fun _ _ _ _ _ => (pts_one (pt_cmpR op_eq (pe_dget hu (pe_fld (pv 0) rfl) (pv 2) (fun _ _ => rfl)) (pv 1) (nomark _)))) (fun _ _ _ _ _ => (pe_dget hu (pe_fld (pv 0) rfl) (pv 2) (fun _ _ => rfl)))))
      (pss_one (ps_ret (pe_lc (own := [("group", 4)]) (g := gName 4) (tt := tTest (tOp (rIn K false) (tVar 4) (tVar 3))) (te := tVar 4) rfl nd (pi_list (pe_fn G_helper_groups (hr.mono (by decide)) (pa_cons (pv 0) pa_nil))) (blkOk_by (N := nEmptiesIn) (sc := defScope sEmptiesIn) (by decide +kernel)) (fun _ _ _ _ _ => (pg_name (i := 4) nd rfl (by first | exact .inl rfl | exact .inr rfl))) (fun _ _ _ _ _ => (pts_one (pt_cmpR op_in_seq (pv 4) (pv 3) (by rfl)))) (fun _ _ _ _ _ => (pv 4)))))), ?_⟩
    obtain ⟨a, ea, la⟩ := kn_members (σ := start nEmptiesIn [.ref k, .int n]) T N (ev_var (i := 0) rfl)
    have few : (keys M).length < 64 := by rw [len_keys]; have := W.few; omega
    have lc := el_lcG (K := K) (te := tDGet (tFld K (tVar 0) "groups") (tVar 2)) (t := tTest (tOp rEq (tDGet (tFld K (tVar 0) "sessions") (tVar 2)) (tVar 1))) (j := 2) (vs := [2]) V.int (fun b => decide (ses M b = n)) (fun b => .int (grp M b)) ea la (by omega) (fun x => rfl)
      (fun b mb H1 e1 => et_is (et_test (ev_op (kn_ses T (N.mono e1) (ev_var rfl) (ev_var rfl) (.inr mb)) (ev_var rfl) (rv_eq rfl))) (dec_int _ _)) (fun b mb _ H1 e1 => kn_grp T (N.mono e1) (ev_var rfl) (ev_var rfl) (.inr mb))
    have e2 : ((keys M).filter fun b => decide (ses M b = n)).map (fun b => V.int (grp M b)) = (ownG M n).map V.int := by unfold ownG; rw [List.map_map]; rfl
    rw [e2] at lc
    refine q_asgL lc fun p H1 np e1 g1 => ?_
    have N1 := N.mono e1
    have c : SpL (spEmpties C) ([.ref k] ++ []) H1 ((empties M).map V.int) := fun H2 e2 Q q E => ⟨k, M, rfl, N1.mono e2, W, q⟩
    have few2 : (empties M).length ≤ 20 := Nat.le_trans (List.length_filter_le _ _) (grp_few W)
    refine s_retL (el_lcGN (K := K) (j := 4) (vs := [4]) V.int (fun g => decide (g ∈ ownG M n)) V.int (el_call (ea_cons (ev_var rfl) ea_nil) c) (by omega) (fun x => rfl) (fun b mb H2 e2 => ?_) (fun b mb _ H2 e2 => ev_var rfl)) fun p2 H2 hp e h1 => q p2 H2 (fresh_back e1 hp) (e1.trans e) h1
    exact et_test (ev_op (ev_var rfl) (ev_var rfl) (rv_inI (sq_of (e2 _ _ g1))))
theorem ok_bear (F : Fun K "can_bear" "can_bear" sBear f fd) (T : KT K C) (G_has_ended : Kf P w K mg base 1 "has_ended" ["kin", "number"] (spEnded C)) (G_all_above : Kf P w K mg base 1 "all_above" ["kin", "number"] (spAbove C)) (m_all : mg "all" = none) : FnOk P w K mg base CX0 2 f fd ["kin", "number", "leader"] (spBear C) := by
  refine F.ok scBear (fun vs H Q E h => ?_) (fun cdv A outer s H vs Q E hr h => ?_)
  · obtain ⟨k, M, n, l, rfl, _⟩ := h
    rfl
  · obtain ⟨k, M, n, l, rfl, N, W, m, q⟩ := h
    have nd := scBear.nd
    have hu := hu_of hr
    refine ⟨_, (pss_cons (ps_if (PW.pt (pw_or (pt_cmpR op_ne (pe_dget hu (pe_fld (pv 0) rfl) (pv 1) (fun _ _ => rfl)) (pv 2) (nomark _)) (pw_or1 (pt_not (pt_val (pe_fn G_has_ended (hr.mono (by decide)) (pa_cons (pv 0) (pa_cons (pv 1) pa_nil)))))))) (pss_one (ps_ret pe_bl)) pss_nil)
      (pss_cons (ps_if (pt_cmpR op_eq (pv 1) (pv 2) (nomark _)) (pss_one (ps_ret pe_bl)) pss_nil)
      (pss_cons (ps_set (i := 3) nd rfl (by first | exact .inl rfl | exact .inr rfl) (pe_fn G_all_above (hr.mono (by decide)) (pa_cons (pv 0) (pa_cons (pv 1) pa_nil))))
      (pss_cons (ps_if (pt_cmpR op_notIn_seq (pv 2) (pv 3) (by rfl)) (pss_one (ps_ret pe_bl)) pss_nil)
      (pss_cons (ps_set (i := 4) nd rfl (by first | exact .inl rfl | exact .inr rfl) (pe_slice sl_list (pv 3) po_none (po_some (pe_op op_add (pe_bm PySem.F.plainAttrs_list PySem.F.slot_list_index PySem.F.type_list_index mt_index (pv 3) (pa_cons (pv 2) pa_nil)) pe_int))))
      (pss_one (ps_ret (pe_callB (cr_all rfl) (by rfl) m_all (by decide +kernel) (pa_cons (pe_lc (own := [("at", 5)]) (g := gName 5) (tt := tYes) (te := tAndV (tOp rEq (tDGet (tFld K (tVar 0) "sessions") (tVar 5)) (tVar 2)) (tNotV (tDGet (tFld K (tVar 0) "adopting") (tVar 5)))) rfl nd (pi_list (pv 4)) (blkOk_by (N := nBear) (sc := defScope sBear) (by decide +kernel)) (fun _ _ _ _ _ => (pg_name (i := 5) nd rfl (by first | exact .inl rfl | exact .inr rfl))) (fun _ _ _ _ _ => pts_nil) (fun _ _ _ _ _ => (pe_and (pe_cmpR op_eq (pe_dget hu (pe_fld (pv 0) rfl) (pv 5) (fun _ _ => rfl)) (pv 2) (nomark _)) (pe_one (pe_not (pe_dget hu (pe_fld (pv 0) rfl) (pv 5) (fun _ _ => rfl))))))) pa_nil))))))))), ?_⟩
    have cE : ∀ H1, Ex H H1 → SpV (spEnded C) ([.ref k, .int n] ++ []) H1 (.bl (end? M n)) := fun H1 e1 H2 e2 Q q E => ⟨k, M, n, rfl, N.mono (e1.trans e2), W, m, q⟩
    refine q_when (et_or (et_is (et_test (ev_op (kn_ses T N (ev_var rfl) (ev_var rfl) (.inr m)) (ev_var rfl) (rv_ne rfl))) (congrArg not (dec_int (ses M n) l))) fun _ => et_not (et_B (ev_call (ea_cons (ev_var rfl) (ea_cons (ev_var rfl) ea_nil)) (cE H (Ex.refl H))))) (fun hb H1 e1 => s_ret ev_c fun H2 e2 => ?_) (fun hb H1 e1 => ?_)
    · have : bearB M n l = false := by
        unfold bearB
        cases z : decide (ses M n = l) <;> cases z2 : end? M n <;> simp [z, z2] at hb ⊢
      rw [this] at q
      exact q H2 (e1.trans e2)
    · have h1 : (decide (ses M n = l) && end? M n) = true := by
        cases z : decide (ses M n = l) <;> cases z2 : end? M n <;> simp [z, z2] at hb ⊢
      refine q_when (et_is (et_test (ev_op (ev_var rfl) (ev_var rfl) (rv_eq rfl))) (dec_int n l)) (fun hb2 H2 e2 => s_ret ev_c fun H3 e3 => ?_) (fun hb2 H2 e2 => ?_)
      · have : bearB M n l = true := by unfold bearB; rw [h1, hb2]; rfl
        rw [this] at q
        exact q H3 (e1.trans (e2.trans e3))
      have E2 := e1.trans e2
      have cA : SpL (spAbove C) ([.ref k, .int n] ++ []) H2 ((above M n).map V.int) := fun H3 e3 Q q E => ⟨k, M, n, rfl, N.mono (E2.trans e3), W, m, q⟩
      refine q_asgL (el_call (ea_cons (ev_var rfl) (ea_cons (ev_var rfl) ea_nil)) cA) fun p H3 np e3 g3 => ?_
      refine q_when (et_test (ev_op (ev_var rfl) (ev_var rfl) (rv_niI (sq_of g3)))) (fun hb3 H4 e4 => s_ret ev_c fun H5 e5 => ?_) (fun hb3 H4 e4 => ?_)
      · have : bearB M n l = false := by
          have z : decide (l ∈ above M n) = false := by simpa using hb3
          unfold bearB
          rw [h1, hb2, z]
          rfl
        rw [this] at q
        exact q H5 (E2.trans (e3.trans (e4.trans e5)))
      · have hin : l ∈ above M n := by simpa using hb3
        obtain ⟨pa, pf⟩ := place_at hin
        have g4 := e4 _ _ g3
        have len := above_len W n m
        have ixv : Ev (tBM K "list" (rIndex K) (tVar 3) (tCons (tVar 2) tNil)) [some (.ref k), some (.int n), some (.int l), some (.ref p), none, none] H4 (.int ((placeOf l (above M n) : Nat) : Int)) := fun H1 e1 Q qq =>
          ⟨_, rfl, .inl ⟨rfl, _, sq_of (e1 _ _ g4)⟩, _, rfl, p, _, _, placeOf l (above M n), .int l, rfl, rfl, sq_of (e1 _ _ g4), rfl, flat_ints (above M n), by
            rw [List.getElem?_map, pa]
            rfl, by show (l == l) = true; exact beq_self_eq_true _, fun j z' hj hz => by
            obtain ⟨b, eb, rfl⟩ := ints_get hz
            exact beq_eq_false_iff_ne.mpr (pf j hj b eb), qq H1 (Ex.refl H1)⟩
        have sl := el_sl (K := K) (te := tVar 3) (tl := tNoPart) (th := tPart (tOp (rI0 fun i j => .int (i + j)) (tBM K "list" (rIndex K) (tVar 3) (tCons (tVar 2) tNil)) (tC (.int 1)))) (ev_var rfl) eo_none (eo_some (ev_op ixv ev_c rv_I0)) (sq_of g4)
        have cut : cutV ((above M n).map V.int) none (some (((placeOf l (above M n) : Nat) : Int) + 1)) = ((above M n).take (placeOf l (above M n) + 1)).map V.int := by
          unfold cutV
          have hp : placeOf l (above M n) < (above M n).length := (List.getElem?_eq_some_iff.mp pa).1
          rw [show (((placeOf l (above M n) : Nat) : Int) + 1) = ((placeOf l (above M n) + 1 : Nat) : Int) by omega, HT.sIx_nat, HT.sIx_none, List.length_map, List.drop_zero, Nat.sub_zero, ← List.map_take]
          congr 2
          omega
        rw [cut] at sl
        refine q_asgL sl fun p2 H5 np2 e5 g5 => ?_
        have N5 := N.mono (E2.trans (e3.trans (e4.trans e5)))
        have lc := el_lcG (K := K) (te := tAndV (tOp rEq (tDGet (tFld K (tVar 0) "sessions") (tVar 5)) (tVar 2)) (tNotV (tDGet (tFld K (tVar 0) "adopting") (tVar 5)))) (t := tYes) (j := 5) (vs := [5]) (σ := [some (.ref k), some (.int n), some (.int l), some (.ref p), some (.ref p2), none]) (tl := tVar 4) V.int (fun _ => true) (fun b => .bl (decide (ses M b = l) && !ado M b)) (ev_var rfl) (sq_of g5) (by rw [List.length_take]; omega) (fun x => rfl)
          (fun b mb H1 e1 => et_yes) (fun b mb _ H1 e1 => by
            have mb2 := above_in W n m b (List.mem_of_mem_take mb)
            exact ev_is (ev_andV (ev_op (kn_ses T (N5.mono e1) (ev_var rfl) (ev_var rfl) mb2) (ev_var rfl) (rv_eq rfl)) fun _ => ev_notV (kn_ado T (N5.mono e1) (ev_var rfl) (ev_var rfl) mb2)) (by rw [dec_int]))
        rw [Evl.filter_all] at lc
        have e9 : ((above M n).take (placeOf l (above M n) + 1)).map (fun b => V.bl (decide (ses M b = l) && !ado M b)) = (((above M n).take (placeOf l (above M n) + 1)).map fun b => decide (ses M b = l) && !ado M b).map V.bl := by rw [List.map_map]; rfl
        rw [e9] at lc
        refine s_ret (ev_is (ev_all lc) ?_) fun H6 e6 => q H6 (E2.trans (e3.trans (e4.trans (e5.trans e6))))
        unfold bearB
        rw [h1, hb2, decide_eq_true hin, Bool.true_and, Bool.false_or, Bool.true_and, List.all_map]
        rfl
end
end KB
set_option Elab.async false
set_option linter.all false
set_option maxRecDepth 100000
set_option maxHeartbeats 4000000
namespace KB
open PySem PySem.Spec PyProof.Rows L2 Evl
def others (M : Fam) (s : Int) : List Int := (tops M s).filter fun n => !decide (n = s)
def ledB (M : Fam) (s : Int) : Bool := decide (s ∈ keys M) && !(others M s).isEmpty
def furB (M : Fam) (s : Int) : Bool := (emptiesIn M s).isEmpty && decide (bearers M s = [])
def further (M : Fam) : List Int := ((sessions M).filter (ledB M)).filter (furB M)
abbrev sFurther : Stmt := topS 18
abbrev nFurther : List Str := ["kin", "session", "led"]
theorem scFurther : FnScope nFurther ["kin"] (defScope sFurther) := ⟨rfl, rfl, rfl, by decide +kernel, rfl, by decide +kernel, by decide +kernel⟩
abbrev sHelpers : Stmt := topS 28
abbrev nHelpers : List Str := ["image", "kin"]
theorem scHelpers : FnScope nHelpers ["image"] (defScope sHelpers) := ⟨rfl, rfl, rfl, by decide +kernel, rfl, by decide +kernel, by decide +kernel⟩
def intsD (ns : List Int) : PyData := .list (ns.map PyData.int)
def helpD (M : Fam) : PyData := .tuple [intsD (lost M), intsD (empties M), intsD (further M)]
def spFurther (C : Addr) : Sp := fun vs H Q _ => ∃ k M, vs = [.ref k] ∧ Kn H C k M ∧ WF M ∧ RetL ((further M).map V.int) H Q
def spHelpers : Sp := fun vs H Q _ => ∃ img M, vs = [img] ∧ ImgAt H img M ∧ WF M ∧ ∀ (p a b c : Addr) (H2 : Hp), H p = none → H a = none → H b = none → H c = none → a ≠ b → a ≠ c → b ≠ c → Ex H H2 → H2 p = some (.tup [.ref a, .ref b, .ref c]) → H2 a = some (.lst ((lost M).map V.int)) → H2 b = some (.lst ((empties M).map V.int)) → H2 c = some (.lst ((further M).map V.int)) → Q (.ref p) H2
section
variable {K : PySem.W.Frag} {σ : L2.St} {H H' : Hp} {te : TE}
theorem et_truL {xs : List V} (h : EvL te σ H xs) : EvT (fun σ H Q => te σ H fun x H' => ∃ k, TruV K x H' k ∧ Q k H') σ H (!xs.isEmpty) := fun H1 e Q q => h H1 e _ fun p H2 np e2 gp => ⟨!xs.isEmpty, .inl ⟨_, SqL.of gp, rfl⟩, q H2 e2⟩
theorem s_retMinD {D : Ends} {ns : List Int} (h : EvL te σ H (ns.map V.int)) (k0 : ns = [] → ∀ H1, Ex H H1 → D.rt .non H1) (k1 : ∀ m, m ∈ ns → ∀ H1, Ex H H1 → D.rt (.int m) H1) : tRet (tCKw (rMinDef K) (tCons te tNil) (tCons (tC .non) tNil)) D σ H :=
  h H (Ex.refl H) _ fun p H1 np e1 g1 => ⟨p, ns, rfl, rfl, sq_of g1, fun e => k0 e H1 e1, fun m hm => k1 m hm H1 e1⟩
end
section
variable {P : Program} {w : World} {K : PySem.W.Frag} {mg : Str → Option Value} {base : Heap} {C f : Addr} {fd : FuncData} {t0 : Tok}
theorem ok_bearer (F : Fun K "bearer" "bearer" sBearer f fd) (T : KT K C) (G_can_bear : Kf P w K mg base 2 "can_bear" ["kin", "number", "leader"] (spBear C)) (m_min : mg "min" = none) : FnOk P w K mg base CX0 3 f fd ["kin", "leader"] (spBearer C) := by
  refine F.ok scBearer (fun vs H Q E h => ?_) (fun cdv A outer s H vs Q E hr h => ?_)
  · obtain ⟨k, M, l, rfl, _⟩ := h
    rfl
  · obtain ⟨k, M, l, rfl, N, W, q⟩ := h
    have nd := scBearer.nd
    have hu2 := Nat.lt_of_le_of_lt (Nat.add_le_add_left (by decide : 2 ≤ 64) _) hr.units
    refine ⟨_, (pss_one (ps_ret (pe_callBK (ks := [Str.ofString "default"]) (cr_minDef rfl hu2) (by rfl) m_min (by decide +kernel) (pa_cons (pe_lc (own := [("at", 2)]) (g := gName 2) (tt := tB (tCall (spBear C) [] E0 (tCons (tVar 0) (tCons (tVar 2) (tCons (tVar 1) tNil))))) (te := tVar 2) rfl nd (pi_list (pe_fld (pv 0) rfl)) (blkOk_by (N := nBearer) (sc := defScope sBearer) (by decide +kernel)) (fun _ _ _ _ _ => (pg_name (i := 2) nd rfl (by first | exact .inl rfl | exact .inr rfl))) (fun _ _ _ _ _ => (pts_one (pt_val (pe_fn G_can_bear (hr.mono (by decide)) (pa_cons (pv 0) (pa_cons (pv 2) (pa_cons (pv 1) pa_nil))))))) (fun _ _ _ _ _ => (pv 2))) pa_nil) (pk_cons pe_non pk_nil)))), ?_⟩
    obtain ⟨a, ea, la⟩ := kn_members (σ := start nBearer [.ref k, .int l]) T N (ev_var (i := 0) rfl)
    have few : (keys M).length < 64 := by rw [len_keys]; have := W.few; omega
    have lc := el_lcG (K := K) (te := tVar 2) (t := tB (tCall (spBear C) [] E0 (tCons (tVar 0) (tCons (tVar 2) (tCons (tVar 1) tNil))))) (j := 2) (vs := [2]) V.int (fun b => bearB M b l) V.int ea la (by omega) (fun x => rfl)
      (fun b mb H1 e1 => by
        have c : SpV (spBear C) ([.ref k, .int b, .int l] ++ []) H1 (.bl (bearB M b l)) := fun H2 e2 Q q E => ⟨k, M, b, l, rfl, N.mono (e1.trans e2), W, mb, q⟩
        exact et_B (ev_call (ea_cons (ev_var rfl) (ea_cons (ev_var rfl) (ea_cons (ev_var rfl) ea_nil))) c)) (fun b mb _ H1 e1 => ev_var rfl)
    exact s_retMinD (ns := bearers M l) lc (fun e H1 e1 => q .non H1 e1 (by simp [e])) (fun m hm H1 e1 => q (.int m) H1 e1 (by
      have : bearers M l ≠ [] := fun z => by rw [z] at hm; cases hm
      simp [this]))
theorem ok_further (F : Fun K "further_sessions" "further_sessions" sFurther f fd) (T : KT K C) (G_sessions_of : Kf P w K mg base 1 "sessions_of" ["kin"] (spSessions C)) (G_is_led : Kf P w K mg base 1 "is_led" ["kin", "session"] (spIsLed C)) (G_other_tops : Kf P w K mg base 3 "other_tops" ["kin", "session"] (spOthers C))
    (G_helper_groups_in : Kf P w K mg base 5 "helper_groups_in" ["kin", "session"] (spEmptiesIn C)) (G_bearer : Kf P w K mg base 3 "bearer" ["kin", "leader"] (spBearer C)) : FnOk P w K mg base CX0 6 f fd ["kin"] (spFurther C) := by
  refine F.ok scFurther (fun vs H Q E h => ?_) (fun cdv A outer s H vs Q E hr h => ?_)
  · obtain ⟨k, M, rfl, _⟩ := h
    rfl
  · obtain ⟨k, M, rfl, N, W, q⟩ := h
    have nd := scFurther.nd
    have hu := hu_of hr
    refine ⟨_, (pss_cons (ps_setLc (i := 2) (own := [("session", 1)]) (g := gName 1) (tt := tAnd (tB (tCall (spIsLed C) [] E0 (tCons (tVar 0) (tCons (tVar 1) tNil)))) (fun σ H Q => (tCall (spOthers C) [] E0 (tCons (tVar 0) (tCons (tVar 1) tNil))) σ H fun x H' => ∃ k, TruV K x H' k ∧ Q k H')) (te := tVar 1) rfl nd rfl rfl (sw_true rfl rfl rfl (by decide +kernel)) (pi_list (pe_fn G_sessions_of (hr.mono (by decide)) (pa_cons (pv 0) pa_nil))) (blkOk_by (N := nFurther) (sc := defScope sFurther) (by decide +kernel)) (fun _ _ _ _ _ => (pg_name (i := 1) nd rfl (by first | exact .inl rfl | exact .inr rfl))) (fun _ _ _ _ _ => (pts_one (PW.pt (pw_and (pt_val (pe_fn G_is_led (hr.mono (by decide)) (pa_cons (pv 0) (pa_cons (pv 1) pa_nil)))) (pw_and1 (pt_truth (pe_fn G_other_tops (hr.mono (by decide)) (pa_cons (pv 0) (pa_cons (pv 1) pa_nil))) (by intro _; rfl))))))) (fun _ _ _ _ _ => (pv 1)))
      (pss_one (ps_ret (pe_lc (own := [("session", 1)]) (g := gName 1) (tt := tAnd (tNot (fun σ H Q => (tCall (spEmptiesIn C) [] E0 (tCons (tVar 0) (tCons (tVar 1) tNil))) σ H fun x H' => ∃ k, TruV K x H' k ∧ Q k H')) (tB (tIsN (tCall (spBearer C) [] E0 (tCons (tVar 0) (tCons (tVar 1) tNil)))))) (te := tVar 1) rfl nd (pi_list (pv 2)) (blkOk_by (N := nFurther) (sc := defScope sFurther) (by decide +kernel)) (fun _ _ _ _ _ => (pg_name (i := 1) nd rfl (by first | exact .inl rfl | exact .inr rfl))) (fun _ _ _ _ _ => (pts_one (PW.pt (pw_and (pt_not (pt_truth (pe_fn G_helper_groups_in (hr.mono (by decide)) (pa_cons (pv 0) (pa_cons (pv 1) pa_nil))) (by intro _; rfl))) (pw_and1 (pt_cmp (pc_isN (pe_fn G_bearer (hr.mono (by decide)) (pa_cons (pv 0) (pa_cons (pv 1) pa_nil)))))))))) (fun _ _ _ _ _ => (pv 1)))))), ?_⟩
    have c : SpL (spSessions C) ([.ref k] ++ []) H ((sessions M).map V.int) := fun H2 e2 Q q E => ⟨k, M, rfl, N.mono e2, W, q⟩
    have few := ses_few W
    have lc := el_lcGN (K := K) (te := tVar 1) (t := tAnd (tB (tCall (spIsLed C) [] E0 (tCons (tVar 0) (tCons (tVar 1) tNil)))) (fun σ H Q => (tCall (spOthers C) [] E0 (tCons (tVar 0) (tCons (tVar 1) tNil))) σ H fun x H' => ∃ k, TruV K x H' k ∧ Q k H')) (j := 1) (vs := [1]) (σ := start nFurther [.ref k]) (tl := tCall (spSessions C) [] E0 (tCons (tVar 0) tNil)) V.int (ledB M) V.int (el_call (ea_cons (ev_var rfl) ea_nil) c) (by omega) (fun x => rfl) (fun b mb H1 e1 => by
        have c1 : SpV (spIsLed C) ([.ref k, .int b] ++ []) H1 (.bl (decide (b ∈ keys M))) := fun H2 e2 Q q E => ⟨k, M, b, rfl, N.mono (e1.trans e2), q⟩
        have c2 : SpL (spOthers C) ([.ref k, .int b] ++ []) H1 ((others M b).map V.int) := fun H2 e2 Q q E => ⟨k, M, b, rfl, N.mono (e1.trans e2), W, q⟩
        refine et_is (et_and (et_B (ev_call (ea_cons (ev_var rfl) (ea_cons (ev_var rfl) ea_nil)) c1)) fun _ => et_truL (el_call (ea_cons (ev_var rfl) (ea_cons (ev_var rfl) ea_nil)) c2)) ?_
        unfold ledB
        rw [List.isEmpty_map]) (fun b mb _ H1 e1 => ev_var rfl)
    refine q_asgL lc fun p H1 np e1 g1 => ?_
    have N1 := N.mono e1
    have few2 : ((sessions M).filter (ledB M)).length ≤ 20 := Nat.le_trans (List.length_filter_le _ _) few
    refine s_retL (el_lcG (K := K) (j := 1) (vs := [1]) V.int (furB M) V.int (ev_var rfl) (sq_of g1) (by omega) (fun x => rfl) (fun b mb H2 e2 => ?_) (fun b mb _ H2 e2 => ev_var rfl)) fun p2 H2 hp e h1 => q p2 H2 (fresh_back e1 hp) (e1.trans e) h1
    have c1 : SpL (spEmptiesIn C) ([.ref k, .int b] ++ []) H2 ((emptiesIn M b).map V.int) := fun H3 e3 Q q E => ⟨k, M, b, rfl, N1.mono (e2.trans e3), W, q⟩
    refine et_is (et_and (et_not (et_truL (el_call (ea_cons (ev_var rfl) (ea_cons (ev_var rfl) ea_nil)) c1))) (b := decide (bearers M b = [])) fun _ => fun H3 e3 Q3 q3 => ?_) ?_
    · exact ⟨_, rfl, _, rfl, k, M, b, rfl, N1.mono (e2.trans e3), W, fun v H4 e4 hv => ⟨_, rfl, by rw [hv]; exact q3 H4 e4⟩⟩
    · unfold furB
      rw [List.isEmpty_map, Bool.not_not]
theorem ok_helpers (F : Fun K "helpers" "helpers" sHelpers f fd) (M_Kin : Kc P w K mg base 2 C "Kin" ["self", "image"] (spInit C)) (G_lost_sessions : Kf P w K mg base 3 "lost_sessions" ["kin"] (spLost C)) (G_helper_groups : Kf P w K mg base 4 "helper_groups" ["kin"] (spEmpties C)) (G_further_sessions : Kf P w K mg base 6 "further_sessions" ["kin"] (spFurther C)) :
    FnOk P w K mg base CX0 7 f fd ["image"] spHelpers := by
  refine F.ok scHelpers (fun vs H Q E h => ?_) (fun cdv A outer s H vs Q E hr h => ?_)
  · obtain ⟨img, M, rfl, _⟩ := h
    rfl
  · obtain ⟨img, M, rfl, I, W, q⟩ := h
    have nd := scHelpers.nd
    refine ⟨_, (pss_cons (ps_set (i := 1) nd rfl (by first | exact .inl rfl | exact .inr rfl) (pe_mk M_Kin (hr.mono (by decide)) (pa_cons (pv 0) pa_nil)))
      (pss_one (ps_ret (pe_tup (pa_cons (pe_fn G_lost_sessions (hr.mono (by decide)) (pa_cons (pv 1) pa_nil)) (pa_cons (pe_fn G_helper_groups (hr.mono (by decide)) (pa_cons (pv 1) pa_nil)) (pa_cons (pe_fn G_further_sessions (hr.mono (by decide)) (pa_cons (pv 1) pa_nil)) pa_nil))))))), ?_⟩
    have mk : EvP (tMake C (spInit C) [] E0 (tCons (tVar 0) tNil)) (start nHelpers [img]) H (fun v G => ∃ k, v = .ref k ∧ Kn G C k M) := fun H1 e1 Q qq =>
      ⟨_, rfl, fun x dx nx ndx ne => ⟨x, dx, img, M, rfl, upd_same, (I.mono e1).mono ((Ex.new ndx).trans (Ex.new (by rw [upd_ne ne.symm]; exact nx))), W, fun H' o N => ⟨rfl, qq _ H' (fun b u hb => o b u (ne_of_none hb nx) (by rw [upd_ne (ne_of_none hb nx), upd_ne (ne_of_none hb ndx)]; exact hb)) ⟨x, rfl, N⟩⟩⟩⟩
    refine q_asgP mk fun v H1 e1 hv => ?_
    obtain ⟨k, rfl, N⟩ := hv
    refine ⟨_, rfl, k, M, rfl, N, W, fun a H2 na e2 ga => ⟨_, rfl, k, M, rfl, N.mono e2, W, fun b H3 nb e3 gb => ⟨_, rfl, k, M, rfl, N.mono (e2.trans e3), W, fun c H4 nc e4 gc => ⟨by show 3 ≤ sizeLine; decide, fun p np => ?_⟩⟩⟩⟩
    have x24 := e2.trans (e3.trans e4)
    exact q p a b c _ (fresh_back (e1.trans x24) np) (fresh_back e1 na) (fresh_back (e1.trans e2) nb) (fresh_back (e1.trans (e2.trans e3)) nc) (ne_of_none ga nb) (ne_of_none (e3 _ _ ga) nc) (ne_of_none gb nc) ((e1.trans x24).trans (Ex.new np)) upd_same
      ((Ex.new np) _ _ (e4 _ _ (e3 _ _ ga))) ((Ex.new np) _ _ (e4 _ _ gb)) ((Ex.new np) _ _ gc)
end
end KB
set_option Elab.async false
set_option linter.all false
set_option maxRecDepth 100000
set_option maxHeartbeats 4000000
namespace KB
open PySem PySem.Spec PyProof.Rows L2 Evl
def reachB (M : Fam) (n l : Int) : Bool := decide (l ∈ above M n) && ((above M n).take (placeOf l (above M n) + 1)).all fun a => decide (ses M a = l) && !ado M a
def stepB (M : Fam) (l a : Int) : Bool := if a = l then !ado M l else if a = 1 then false else (decide (ses M a = l) && !ado M a) && reachB M a l
theorem bear_reach (M : Fam) (n l : Int) : bearB M n l = ((decide (ses M n = l) && end? M n) && (decide (n = l) || reachB M n l)) := rfl
theorem reach_eq {M : Fam} {n l : Int} (W : WF M) (m : n ∈ keys M) (hl : l ∈ keys M) (hs : ses M l = l) : reachB M n l = stepB M l (up M n) := by
  have l1 : l ≠ 1 := fun z => W.one (z ▸ hl)
  unfold reachB stepB
  rw [above_eq W m]
  by_cases h : up M n = l
  · rw [if_pos h, h]
    simp [placeOf, hs]
  · rw [if_neg h]
    have pl : ∀ xs : List Int, placeOf l (up M n :: xs) = placeOf l xs + 1 := fun xs => by
      show (if up M n = l then 0 else placeOf l xs + 1) = _
      rw [if_neg h]
    by_cases h1 : up M n = 1
    · rw [if_pos h1, if_pos h1, h1]
      have : l ∉ [(1 : Int)] := fun z => l1 (List.mem_singleton.mp z)
      rw [decide_eq_false this]
      rfl
    · rw [if_neg h1, if_neg h1, pl, List.take_succ_cons, List.all_cons]
      have e : decide (l ∈ up M n :: above M (up M n)) = decide (l ∈ above M (up M n)) := by
        rw [decide_eq_decide, List.mem_cons]
        exact ⟨fun z => z.resolve_left fun w => h w.symm, .inr⟩
      rw [e]
      unfold reachB
      cases decide (l ∈ above M (up M n)) <;> simp
abbrev sLBears : Stmt := topS 46
abbrev nLBears : List Str := ["_law_kin", "_law_n", "_law_session_here", "_law_at"]
theorem scLBears : FnScope nLBears ["_law_kin", "_law_n", "_law_session_here"] (defScope sLBears) := ⟨rfl, rfl, rfl, by decide +kernel, rfl, by decide +kernel, by decide +kernel⟩
def spLBears : Sp := fun vs H Q _ => ∃ kd L n l, vs = [.ref kd, .int n, .int l] ∧ Lk H kd L ∧ Born (rowsL L) ∧ n ∈ keys (famL L) ∧ l ∈ keys (famL L) ∧ ses (famL L) l = l ∧ RetV (.bl (bearB (famL L) n l)) H Q
section
variable {K : PySem.W.Frag} {σ : L2.St} {H H' : Hp} {kd : Addr} {L : List Ent} {ta tb : TE} {n : Int}
theorem lk_word (B : Born (rowsL L)) (N : Lk H kd L) (hk : Ev ta σ H (.ref kd)) (hb : Ev tb σ H (.int n)) (m : n ∈ keys (famL L)) : ∃ x : Nat, Ev (tOp (rIxL K) (tDGet ta tb) (tC (.int 4))) σ H (.str (wordOf x)) ∧ end? (famL L) n = decide (x = 1) := by
  obtain ⟨r, mr, e⟩ := (wfL B).row m
  refine ⟨r.w, lk_row (i := 4) B N hk hb m fun r' mr' e' => ?_, by rw [← e, (wfL B).end_ mr]⟩
  have h1 := look_of (wfL B).asc mr
  have h2 := look_of (wfL B).asc mr'
  rw [e] at h1
  rw [e', h1] at h2
  cases h2
  rfl
end
section
variable {P : Program} {w : World} {K : PySem.W.Frag} {mg : Str → Option Value} {base : Heap} {C f : Addr} {fd : FuncData} {t0 : Tok}
theorem ok_lbears (F : Fun K "_law_bears" "_law_bears" sLBears f fd) : FnOk P w K mg base CX0 1 f fd ["_law_kin", "_law_n", "_law_session_here"] spLBears := by
  refine F.ok scLBears (fun vs H Q E h => ?_) (fun cdv A outer s H vs Q E hr h => ?_)
  · obtain ⟨kd, L, n, l, rfl, _⟩ := h
    rfl
  · obtain ⟨kd, L, n, l, rfl, N, B, m, hl, hs, q⟩ := h
    have nd := scLBears.nd
    have hu := hu_of hr
    have W := wfL B
    refine ⟨_, (pss_cons (ps_if (PW.pt (pw_or (pt_cmpR op_ne (pe_ix ix_list (pe_dget hu (pv 0) (pv 1) (fun _ _ => rfl)) pe_int (fun _ _ => rfl)) (pv 2) (nomark _)) (pw_or1 (pt_cmpR op_ne (pe_ix ix_list (pe_dget hu (pv 0) (pv 1) (fun _ _ => rfl)) pe_int (fun _ _ => rfl)) pe_str (nomark _))))) (pss_one (ps_ret pe_bl)) pss_nil)
      (pss_cons (ps_set (i := 3) nd rfl (by first | exact .inl rfl | exact .inr rfl) (pe_ix ix_list (pe_dget hu (pv 0) (pv 1) (fun _ _ => rfl)) pe_int (fun _ _ => rfl)))
      (pss_cons (ps_while PassesOwn.never (PW.pt (pw_and (pt_cmpR op_ne (pv 1) (pv 2) (nomark _)) (pw_and (pt_cmp (pc_din hu (pv 3) (pv 0))) (pw_and (pt_cmpR op_ne (pv 3) (pv 2) (nomark _)) (pw_and (pt_cmpR op_eq (pe_ix ix_list (pe_dget hu (pv 0) (pv 3) (fun _ _ => rfl)) pe_int (fun _ _ => rfl)) (pv 2) (nomark _)) (pw_and1 (pt_not (pt_val (pe_ix ix_list (pe_dget hu (pv 0) (pv 3) (fun _ _ => rfl)) pe_int (fun _ _ => rfl)))))))))) (pss_one (ps_set (i := 3) nd rfl (by first | exact .inl rfl | exact .inr rfl) (pe_ix ix_list (pe_dget hu (pv 0) (pv 3) (fun _ _ => rfl)) pe_int (fun _ _ => rfl)))))
      (pss_one (ps_ret (pe_or (pe_cmpR op_eq (pv 1) (pv 2) (nomark _)) (pe_one (pe_and (pe_cmpR op_eq (pv 3) (pv 2) (nomark _)) (pe_one (pe_not (pe_ix ix_list (pe_dget hu (pv 0) (pv 2) (fun _ _ => rfl)) pe_int (fun _ _ => rfl)))))))))))), ?_⟩
    obtain ⟨x, ew, ex⟩ := lk_word (K := K) (ta := tVar 0) (tb := tVar 1) (σ := start nLBears [.ref kd, .int n, .int l]) B N (ev_var rfl) (ev_var rfl) m
    refine q_when (et_or (et_is (et_test (ev_op (lk_ses B N (ev_var rfl) (ev_var rfl) m) (ev_var rfl) (rv_ne rfl))) (congrArg not (dec_int (ses (famL L) n) l))) fun _ => et_is (et_test (ev_op ew ev_c (rv_ne rfl))) (congrArg not ((word_ended x).trans ex.symm))) (fun hb H1 e1 => s_ret ev_c fun H2 e2 => ?_) (fun hb H1 e1 => ?_)
    · have : bearB (famL L) n l = false := by
        rw [bear_reach]
        cases z : decide (ses (famL L) n = l) <;> cases z2 : end? (famL L) n <;> simp [z, z2] at hb ⊢
      rw [this] at q
      exact q H2 (e1.trans e2)
    have h1 : (decide (ses (famL L) n = l) && end? (famL L) n) = true := by
      cases z : decide (ses (famL L) n = l) <;> cases z2 : end? (famL L) n <;> simp [z, z2] at hb ⊢
    obtain ⟨rk, _, r2⟩ := W.rk
    refine q_asg (lk_up B (N.mono e1) (ev_var rfl) (ev_var rfl) m) fun H2 e2 => ?_
    refine q_while (fun c σ G => Ex H G ∧ ∃ u, σ = [some (.ref kd), some (.int n), some (.int l), some (.int u)] ∧ (u = 1 ∨ u ∈ keys (famL L)) ∧ c = (if u = 1 then 0 else rk u + 1) ∧ reachB (famL L) n l = stepB (famL L) l u)
      _ ⟨e1.trans e2, _, rfl, ?_, rfl, reach_eq W m hl hs⟩ ?_
    · by_cases z : up (famL L) n = 1
      · exact .inl z
      · exact .inr (W.up_in m z)
    · rintro c σ G ⟨eG, u, rfl, hu2, rfl, ha⟩
      have NG := N.mono eG
      refine ⟨!decide (n = l) && (decide (u ∈ keys (famL L)) && (!decide (u = l) && (decide (ses (famL L) u = l) && !ado (famL L) u))), et_and (et_is (et_test (ev_op (ev_var rfl) (ev_var rfl) (rv_ne rfl))) (by rw [dec_int])) (fun _ => et_and (et_B (lk_in B NG (ev_var rfl) (ev_var rfl))) fun hk => ?_), fun hb G1 e3 => ?_, fun hb G1 e3 => ?_⟩
      · have mu : u ∈ keys (famL L) := of_decide_eq_true hk
        exact et_and (et_is (et_test (ev_op (ev_var rfl) (ev_var rfl) (rv_ne rfl))) (by rw [dec_int])) fun _ => et_and (et_is (et_test (ev_op (lk_ses B NG (ev_var rfl) (ev_var rfl) mu) (ev_var rfl) (rv_eq rfl))) (by rw [dec_int])) fun _ => et_not (et_B (lk_ado B NG (ev_var rfl) (ev_var rfl) mu))
      · simp only [Bool.and_eq_true] at hb
        obtain ⟨_, b2, b3, b4⟩ := hb
        have mu : u ∈ keys (famL L) := of_decide_eq_true b2
        have ul : u ≠ l := by simpa using b3
        have u1 : u ≠ 1 := fun z => W.one (z ▸ mu)
        have st : reachB (famL L) n l = reachB (famL L) u l := by
          rw [ha]
          unfold stepB
          rw [if_neg ul, if_neg u1, b4.1, b4.2]
          rfl
        refine ⟨fun σ2 H3 => Ex H H3 ∧ σ2 = [some (.ref kd), some (.int n), some (.int l), some (.int (up (famL L) u))], ?_, ?_⟩
        · rintro σ2 H3 ⟨e4, rfl⟩
          refine ⟨_, ?_, e4, _, rfl, ?_, rfl, st.trans (reach_eq W mu hl hs)⟩
          · rw [if_neg u1]
            split
            · omega
            · rename_i z2
              obtain ⟨r, mr, rfl⟩ := W.row mu
              have e := W.up mr
              rw [e] at z2 ⊢
              have := r2 r mr z2
              omega
          · by_cases z2 : up (famL L) u = 1
            · exact .inl z2
            · exact .inr (W.up_in mu z2)
        · exact s_asg (lk_up B (NG.mono e3) (ev_var rfl) (ev_var rfl) mu) fun H3 e4 => ⟨eG.trans (e3.trans e4), rfl⟩
      · have NG1 := NG.mono e3
        refine s_ret (ev_is (ev_orV (ev_is (ev_op (ev_var rfl) (ev_var rfl) (rv_eq rfl)) (by rw [dec_int])) fun _ => ev_andV (ev_is (ev_op (ev_var rfl) (ev_var rfl) (rv_eq rfl)) (by rw [dec_int])) fun _ => ev_notV (lk_ado B NG1 (ev_var rfl) (ev_var rfl) hl)) ?_) fun H3 e4 => q H3 (eG.trans (e3.trans e4))
        rw [bear_reach, h1, Bool.true_and]
        by_cases nl : n = l
        · rw [decide_eq_true nl]
          rfl
        · rw [decide_eq_false nl, Bool.false_or, Bool.false_or, ha]
          rw [decide_eq_false nl, Bool.not_false, Bool.true_and] at hb
          unfold stepB
          by_cases ul : u = l
          · rw [decide_eq_true ul, if_pos ul]
            rfl
          · rw [decide_eq_false ul, if_neg ul]
            rcases hu2 with u1 | mu
            · rw [if_pos u1]
              rfl
            · have u1 : u ≠ 1 := fun z => W.one (z ▸ mu)
              rw [decide_eq_true mu, decide_eq_false ul, Bool.true_and, Bool.not_false, Bool.true_and] at hb
              rw [if_neg u1, hb]
              rfl
end
end KB
set_option Elab.async false
set_option linter.all false
set_option maxRecDepth 100000
set_option maxHeartbeats 4000000
namespace KB
open PySem PySem.Spec PyProof.Rows L2 Evl
section
variable {K : PySem.W.Frag} {σ : L2.St} {H H' : Hp} {ta tb te : TE} {tz : TS} {D : Ends}
/-- x = [.. for .. in kin ..], kin being read -/
theorem q_lockL {i : Nat} {xs : List V} (h : EvL (tLockE te) σ H xs) (k : ∀ p H1, H p = none → Ex H H1 → H1 p = some (.lst xs) → tz D (σ.set i (some (.ref p))) H1) : tSeq (tLock (tAsg te (gName i))) tz D σ H :=
  h H (Ex.refl H) (fun v H1 => tz D (σ.set i (some v)) H1) k
theorem ev_nilI {a : Addr} {ns : List Int} (h : Ev ta σ H (.ref a)) (g : H a = some (.lst (ns.map V.int))) : Ev (tOp (rEqD K) ta (tLst tNil)) σ H (.bl (decide (ns = []))) := fun H1 e Q q =>
  h H1 e _ fun H2 e2 => ⟨by show 0 ≤ sizeLine; decide, fun p np => by
    refine ⟨.list (ns.map PyData.int), .list [], .lst (sq_of ((Ex.new np) _ _ ((e.trans e2) _ _ g))) (Evl.dp_ints ns), .lst (sq_of upd_same) .nil, shaped_ints ns, rfl, ?_⟩
    have : PyData.eqv (.list (ns.map PyData.int)) (.list []) = decide (ns = []) := by cases ns <;> simp [PyData.eqv, PyData.eqvAll]
    rw [this]
    exact q _ (e2.trans (Ex.new np))⟩
end
/-- [e for n in kin if t], what else stands being known -/
theorem el_lockF {K : PySem.W.Frag} {σ : L2.St} {H : Hp} {kd : Addr} {L : List Ent} {t : TT} {te : TE} {j i0 : Nat} {vs : List Nat} (U : LkU H kd L) (few : L.length ≤ 20) (hi : σ[i0]? = some (some (.ref kd))) (p : Int → Bool) (g : Int → V) (hw : ∀ x, wipe ((wipe σ vs).set j (some x)) vs = wipe σ vs)
    (ht : ∀ n ∈ numsL L, ∀ G, Lk G kd L → (∀ b o, b ≠ kd → H b = some o → G b = some o) → EvT t ((wipe σ vs).set j (some (.int n))) G (p n)) (he : ∀ n ∈ numsL L, p n = true → ∀ G, Lk G kd L → Ev te ((wipe σ vs).set j (some (.int n))) G (g n)) :
    EvL (tLockE (tLc (iKeys (tVar i0)) (gName j) t te vs)) σ H (((numsL L).filter p).map g) := fun H1 e1 Q q => by
  have U1 := U.mono e1
  refine ⟨kd, .dK (tbl L), U1.top, True.intro, fun od => ?_⟩
  have gk : upd H1 kd (.frz od (.dK (tbl L))) kd = some (.frz od (.dK (tbl L))) := upd_same
  have st : ∀ {b : Addr} {o : HO}, b ≠ kd → H1 b = some o → upd H1 kd (.frz od (.dK (tbl L))) b = some o := fun n h => (upd_ne n).trans h
  have Nf : Lk (upd H1 kd (.frz od (.dK (tbl L)))) kd L := ⟨.inr ⟨od, gk⟩, fun x m => st (fun z => by have h := U1.rows x m; rw [z, U1.top] at h; cases h) (U1.rows x m)⟩
  have fr : ∀ {b : Addr}, upd H1 kd (.frz od (.dK (tbl L))) b = none → H1 b = none := fun {b} h => by
    by_cases z : b = kd
    · rw [z, gk] at h; cases h
    · rw [upd_ne z] at h; exact h
  generalize upd H1 kd (.frz od (.dK (tbl L))) = Hf at gk st Nf fr ⊢
  refine ⟨_, hi, kd, od, rfl, .inl ⟨tbl L, gk, fun Dl hD => lc_it (walk_keys (d := kd) (o := od) (kvs := tbl L)) (Made Hf (numsL L) p g Dl) ⟨hD, Ex.new hD, upd_same⟩ (fun i G _ m => m.2.1 _ _ gk) ?_ fun G m => ?_⟩⟩
  · rintro i x G _ hi m ⟨rfl, k, v, ek, rfl⟩
    unfold tbl at ek
    rw [List.getElem?_map] at ek
    obtain ⟨e, ee, e2⟩ := Option.map_eq_some_iff.mp ek
    obtain ⟨rfl, rfl⟩ := Prod.mk.inj e2
    have en : (numsL L)[i]? = some e.1.n := by
      unfold numsL
      rw [List.getElem?_map, ee]
      rfl
    have mn := List.mem_of_getElem? en
    exact ⟨hw _, made_turn m (by unfold numsL; rw [List.length_map]; omega) en (ht _ mn Hf Nf fun b o hb h => st hb (e1 _ _ h)) (fun hp => he _ mn hp Hf Nf)⟩
  · obtain ⟨nD, eG, gD⟩ := m
    have len : (tbl L).length = (numsL L).length := by unfold tbl numsL; rw [List.length_map, List.length_map]
    rw [len, List.take_length] at gD
    have nk : Dl ≠ kd := fun z => by rw [z, gk] at nD; cases nD
    refine ⟨eG _ _ gk, q Dl _ (fr nD) (fun b o h => ?_) ((upd_ne nk).trans gD)⟩
    by_cases z : b = kd
    · rw [z, upd_same, ← U1.top, ← z, h]
    · rw [upd_ne z]
      exact eG _ _ (st z h)
section
variable {K : PySem.W.Frag} {σ : L2.St} {H H' : Hp} {ta tb te : TE} {v : V}
theorem ev_neI {a : Addr} {ns : List Int} (h : Ev ta σ H (.ref a)) (g : H a = some (.lst (ns.map V.int))) : Ev (tOp (rNeD K) ta (tLst tNil)) σ H (.bl (!decide (ns = []))) := fun H1 e Q q =>
  h H1 e _ fun H2 e2 => ⟨by show 0 ≤ sizeLine; decide, fun p np => by
    refine ⟨.list (ns.map PyData.int), .list [], .lst (sq_of ((Ex.new np) _ _ ((e.trans e2) _ _ g))) (Evl.dp_ints ns), .lst (sq_of upd_same) .nil, shaped_ints ns, rfl, ?_⟩
    have : PyData.eqv (.list (ns.map PyData.int)) (.list []) = decide (ns = []) := by cases ns <;> simp [PyData.eqv, PyData.eqvAll]
    rw [this]
    exact q _ (e2.trans (Ex.new np))⟩
/-- [v] * int(b) -/
theorem el_repB {b : Bool} (hv : Ev ta σ H v) (hb : Ev tb σ H (.bl b)) : EvL (tOp rRep (tLst (tCons ta tNil)) (tCB (fun xs H Q => (∃ i, xs = [.int i] ∧ Q (.int i) H) ∨ ∃ k, xs = [.bl k] ∧ Q (.int (if k then 1 else 0)) H) (tCons tb tNil))) σ H (if b = true then [v] else []) := fun H1 e Q q =>
  hv H1 e _ fun H2 e2 => ⟨by show 1 ≤ sizeLine; decide, fun l nl => hb _ ((e.trans e2).trans (Ex.new nl)) _ fun H3 e3 => .inr ⟨b, rfl, l, _, [v], rfl, rfl, e3 _ _ upd_same, by split <;> decide, by split <;> decide, by split <;> (show _ ≤ sizeLine) <;> first | exact Nat.le_trans (show 1 * 1 ≤ 1 by decide) (by decide) | exact Nat.zero_le _, fun p np => by
    have fx := q p (upd H3 p (.lst (if b = true then [v] else []))) (fresh_back ((e2.trans (Ex.new nl)).trans e3) np) (((e2.trans (Ex.new nl)).trans e3).trans (Ex.new np)) upd_same
    cases b with
    | true => exact fx
    | false => exact fx⟩⟩
end
def fits (M : Fam) (L : List Ent) (s : Int) : Bool := !decide (others M s = []) && (decide (((numsL L).filter fun n => decide (ses M n = s) && decide (grp M n ∈ empties M)) = []) && decide (((numsL L).filter fun n => bearB M n s) = []))
theorem nil_iff {α : Type} {l : List α} {p : α → Bool} : l.filter p = [] ↔ ∀ x ∈ l, p x = false := by
  rw [List.filter_eq_nil_iff]
  exact ⟨fun h x m => by simpa using h x m, fun h x m => by simp [h x m]⟩
theorem fits_eq {L : List Ent} (B : Born (rowsL L)) : ((sessions (famL L)).filter fun s => decide (s ∈ keys (famL L))).filter (fits (famL L) L) = further (famL L) := by
  unfold further
  rw [List.filter_filter, List.filter_filter]
  refine List.filter_congr fun s _ => ?_
  have e1 : decide (((numsL L).filter fun n => decide (ses (famL L) n = s) && decide (grp (famL L) n ∈ empties (famL L))) = []) = (emptiesIn (famL L) s).isEmpty := by
    rw [Bool.eq_iff_iff, decide_eq_true_iff, List.isEmpty_iff, nil_iff]
    unfold emptiesIn
    rw [nil_iff]
    constructor
    · intro h g mg
      refine decide_eq_false fun z => ?_
      unfold ownG at z
      obtain ⟨n, mn, rfl⟩ := List.mem_map.mp z
      obtain ⟨m1, m2⟩ := List.mem_filter.mp mn
      have := h n ((num_iff B).mpr m1)
      rw [m2, decide_eq_true mg] at this
      cases this
    · intro h n mn
      by_cases z : ses (famL L) n = s
      · by_cases z2 : grp (famL L) n ∈ empties (famL L)
        · have := of_decide_eq_false (h _ z2)
          exact absurd (List.mem_map.mpr ⟨n, List.mem_filter.mpr ⟨(num_iff B).mp mn, decide_eq_true z⟩, rfl⟩) this
        · rw [decide_eq_false z2, Bool.and_false]
      · rw [decide_eq_false z, Bool.false_and]
  have e2 : decide (((numsL L).filter fun n => bearB (famL L) n s) = []) = decide (bearers (famL L) s = []) := by
    rw [decide_eq_decide]
    unfold bearers
    rw [nil_iff, nil_iff]
    exact ⟨fun h x m => h x ((num_iff B).mpr m), fun h x m => h x ((num_iff B).mp m)⟩
  unfold fits ledB furB
  rw [e1, e2]
  have e3 : (!decide (others (famL L) s = [])) = !(others (famL L) s).isEmpty := by cases others (famL L) s <;> rfl
  rw [e3]
  cases decide (s ∈ keys (famL L)) <;> cases (others (famL L) s).isEmpty <;> cases (emptiesIn (famL L) s).isEmpty <;> cases decide (bearers (famL L) s = []) <;> rfl
abbrev sNeeded : Stmt := topS 47
abbrev nNeeded : List Str := ["_law_kin", "_law_n", "_law_sessions_so", "_law_session_here", "_law_lost", "_law_g", "_law_empty", "_law_more", "_law_some", "_law_helped", "_law_bearers"]
theorem scNeeded : FnScope nNeeded ["_law_kin"] (defScope sNeeded) := ⟨rfl, rfl, rfl, by decide +kernel, rfl, by decide +kernel, by decide +kernel⟩
def spNeeded : Sp := fun vs H Q _ => ∃ kd L, vs = [.ref kd] ∧ LkU H kd L ∧ Born (rowsL L) ∧ (∀ s ∈ sessions (famL L), s ∈ keys (famL L) → ses (famL L) s = s) ∧ RetD (helpD (famL L)) H Q
section
variable {P : Program} {w : World} {K : PySem.W.Frag} {mg : Str → Option Value} {base : Heap} {C f : Addr} {fd : FuncData} {t0 : Tok}
theorem ok_needed (F : Fun K "_law_needed" "_law_needed" sNeeded f fd) (G__law_tops : Kf P w K mg base 1 "_law_tops" ["_law_kin", "_law_session_here"] spLTops) (G__law_bears : Kf P w K mg base 1 "_law_bears" ["_law_kin", "_law_n", "_law_session_here"] spLBears)
    (m_sorted : mg "sorted" = none) (m_set : mg "set" = none) (m_int : mg "int" = none) : FnOk P w K mg base CX0 2 f fd ["_law_kin"] spNeeded := by
  refine F.ok scNeeded (fun vs H Q E h => ?_) (fun cdv A outer s H vs Q E hr h => ?_)
  · obtain ⟨k, L, rfl, _⟩ := h
    rfl
  · obtain ⟨kd, L, rfl, U, B, hse, q⟩ := h
    have nd := scNeeded.nd
    have hu := hu_of hr
    have W := wfL B
    refine ⟨_, (pss_cons (ps_set (i := 2) nd rfl (by first | exact .inl rfl | exact .inr rfl) (pe_callB (cr_sortedSet rfl) (by rfl) m_sorted (by decide +kernel) (pa_cons (pe_callTy (cr_setL rfl) (by rfl) m_set (by decide +kernel) (pa_cons (pe_lock (pe_lc (own := [("_law_n", 1)]) (g := gName 1) (tt := tYes) (te := tKin K 0 1 1) rfl nd (pi_keys (pv 0)) (blkOk_by (N := nNeeded) (sc := defScope sNeeded) (by decide +kernel)) (fun _ _ _ _ _ => (pg_name (i := 1) nd rfl (by first | exact .inl rfl | exact .inr rfl))) (fun _ _ _ _ _ => pts_nil) (fun _ _ _ _ _ => (pe_ix ix_list (pe_dget hu (pv 0) (pv 1) (fun _ _ => rfl)) pe_int (fun _ _ => rfl))))) pa_nil)) pa_nil)))
      (pss_cons (ps_set (i := 4) nd rfl (by first | exact .inl rfl | exact .inr rfl) (pe_lc (own := [("_law_session_here", 3)]) (g := gName 3) (tt := tAnd (tTest (tOp rNe (tVar 3) (tC (.int 1)))) (tB (tDNotIn (tVar 3) (tVar 0)))) (te := tVar 3) rfl nd (pi_list (pv 2)) (blkOk_by (N := nNeeded) (sc := defScope sNeeded) (by decide +kernel)) (fun _ _ _ _ _ => (pg_name (i := 3) nd rfl (by first | exact .inl rfl | exact .inr rfl))) (fun _ _ _ _ _ => (pts_one (PW.pt (pw_and (pt_cmpR op_ne (pv 3) pe_int (nomark _)) (pw_and1 (pt_cmp (pc_dnotin hu (pv 3) (pv 0)))))))) (fun _ _ _ _ _ => (pv 3))))
      (pss_cons (ps_set (i := 6) nd rfl (by first | exact .inl rfl | exact .inr rfl) (pe_lc (own := [("_law_g", 5)]) (g := gName 5) (tt := tAnd (tTest (tOp rNe (tVar 5) (tC (.int 1)))) (tAnd (tB (tDNotIn (tVar 5) (tVar 0))) (tTest (tOp (rIn K true) (tVar 5) (tVar 4))))) (te := tVar 5) rfl nd (pi_list (pe_callB (cr_sortedSet rfl) (by rfl) m_sorted (by decide +kernel) (pa_cons (pe_callTy (cr_setL rfl) (by rfl) m_set (by decide +kernel) (pa_cons (pe_lock (pe_lc (own := [("_law_n", 1)]) (g := gName 1) (tt := tYes) (te := tKin K 0 1 2) rfl nd (pi_keys (pv 0)) (blkOk_by (N := nNeeded) (sc := defScope sNeeded) (by decide +kernel)) (fun _ _ _ _ _ => (pg_name (i := 1) nd rfl (by first | exact .inl rfl | exact .inr rfl))) (fun _ _ _ _ _ => pts_nil) (fun _ _ _ _ _ => (pe_ix ix_list (pe_dget hu (pv 0) (pv 1) (fun _ _ => rfl)) pe_int (fun _ _ => rfl))))) pa_nil)) pa_nil))) (blkOk_by (N := nNeeded) (sc := defScope sNeeded) (by decide +kernel)) (fun _ _ _ _ _ => (pg_name (i := 5) nd rfl (by first | exact .inl rfl | exact .inr rfl))) (fun _ _ _ _ _ => (pts_one (PW.pt (pw_and (pt_cmpR op_ne (pv 5) pe_int (nomark _)) (pw_and (pt_cmp (pc_dnotin hu (pv 5) (pv 0))) (pw_and1 (pt_cmpR op_notIn_seq (pv 5) (pv 4) (by rfl)))))))) (fun _ _ _ _ _ => (pv 5))))
      (pss_cons (ps_set (i := 7) nd rfl (by first | exact .inl rfl | exact .inr rfl) (pe_lst pa_nil))
      (pss_cons (ps_for PassesOwn.never rfl (pi_list (pe_lc (own := [("_law_session_here", 3)]) (g := gName 3) (tt := tB (tDIn (tVar 3) (tVar 0))) (te := tVar 3) rfl nd (pi_list (pv 2)) (blkOk_by (N := nNeeded) (sc := defScope sNeeded) (by decide +kernel)) (fun _ _ _ _ _ => (pg_name (i := 3) nd rfl (by first | exact .inl rfl | exact .inr rfl))) (fun _ _ _ _ _ => (pts_one (pt_cmp (pc_din hu (pv 3) (pv 0))))) (fun _ _ _ _ _ => (pv 3)))) (pg_name (i := 3) nd rfl (by first | exact .inl rfl | exact .inr rfl)) (pss_cons (ps_setLc (i := 8) (own := [("_law_n", 1)]) (g := gName 1) (tt := tTest (tOp rNe (tVar 1) (tVar 3))) (te := tVar 1) rfl nd rfl rfl (sw_true rfl rfl rfl (by decide +kernel)) (pi_list (pe_fn G__law_tops (hr.mono (by decide)) (pa_cons (pv 0) (pa_cons (pv 3) pa_nil)))) (blkOk_by (N := nNeeded) (sc := defScope sNeeded) (by decide +kernel)) (fun _ _ _ _ _ => (pg_name (i := 1) nd rfl (by first | exact .inl rfl | exact .inr rfl))) (fun _ _ _ _ _ => (pts_one (pt_cmpR op_ne (pv 1) (pv 3) (nomark _)))) (fun _ _ _ _ _ => (pv 1)))
      (pss_cons (ps_lock (ps_setLc (i := 9) (own := [("_law_n", 1)]) (g := gName 1) (tt := tAnd (tTest (tOp rEq (tKin K 0 1 1) (tVar 3))) (tTest (tOp (rIn K false) (tKin K 0 1 2) (tVar 6)))) (te := tVar 1) rfl nd rfl rfl (sw_true rfl rfl rfl (by decide +kernel)) (pi_keys (pv 0)) (blkOk_by (N := nNeeded) (sc := defScope sNeeded) (by decide +kernel)) (fun _ _ _ _ _ => (pg_name (i := 1) nd rfl (by first | exact .inl rfl | exact .inr rfl))) (fun _ _ _ _ _ => (pts_one (PW.pt (pw_and (pt_cmpR op_eq (pe_ix ix_list (pe_dget hu (pv 0) (pv 1) (fun _ _ => rfl)) pe_int (fun _ _ => rfl)) (pv 3) (nomark _)) (pw_and1 (pt_cmpR op_in_seq (pe_ix ix_list (pe_dget hu (pv 0) (pv 1) (fun _ _ => rfl)) pe_int (fun _ _ => rfl)) (pv 6) (by rfl))))))) (fun _ _ _ _ _ => (pv 1))))
      (pss_cons (ps_lock (ps_setLc (i := 10) (own := [("_law_n", 1)]) (g := gName 1) (tt := tB (tCall spLBears [] E0 (tCons (tVar 0) (tCons (tVar 1) (tCons (tVar 3) tNil))))) (te := tVar 1) rfl nd rfl rfl (sw_true rfl rfl rfl (by decide +kernel)) (pi_keys (pv 0)) (blkOk_by (N := nNeeded) (sc := defScope sNeeded) (by decide +kernel)) (fun _ _ _ _ _ => (pg_name (i := 1) nd rfl (by first | exact .inl rfl | exact .inr rfl))) (fun _ _ _ _ _ => (pts_one (pt_val (pe_fn G__law_bears (hr.mono (by decide)) (pa_cons (pv 0) (pa_cons (pv 1) (pa_cons (pv 3) pa_nil))))))) (fun _ _ _ _ _ => (pv 1))))
      (pss_one (ps_set (i := 7) nd rfl (by first | exact .inl rfl | exact .inr rfl) (pe_op op_cat (pv 7) (pe_op op_rep (pe_lst (pa_cons (pv 3) pa_nil)) (pe_callTy call_int1 (by rfl) m_int (by decide +kernel) (pa_cons (pe_and (pe_cmpR (op_neD hr.units) (pv 8) (pe_lst pa_nil) (nomark _)) (pe_and (pe_cmpR (op_eqD hr.units) (pv 9) (pe_lst pa_nil) (nomark _)) (pe_one (pe_cmpR (op_eqD hr.units) (pv 10) (pe_lst pa_nil) (nomark _))))) pa_nil))))))))))
      (pss_one (ps_ret (pe_tup (pa_cons (pv 4) (pa_cons (pv 6) (pa_cons (pv 7) pa_nil))))))))))), ?_⟩
    have lens : ((numsL L).map (ses (famL L))).length < 64 := by rw [List.length_map, len_nums]; have := lenL B; omega
    have leng : ((numsL L).map (grp (famL L))).length < 64 := by rw [List.length_map, len_nums]; have := lenL B; omega
    have es : asc ((numsL L).map (ses (famL L))) = sessions (famL L) := by
      have := asc_nums B (fun _ => true) (ses (famL L))
      rw [Evl.filter_all, Evl.filter_all, ses_map W] at this
      exact this
    have eg : asc ((numsL L).map (grp (famL L))) = groups (famL L) := by
      have := asc_nums B (fun _ => true) (grp (famL L))
      rw [Evl.filter_all, Evl.filter_all, grp_map W] at this
      exact this
    have fs := ses_few W
    have fg := grp_few W
    have lc := el_lockK (K := K) (t := tYes) (te := tKin K 0 1 1) (σ := start nNeeded [.ref kd]) (i0 := 0) (j := 1) (vs := [1]) U (lenL B) rfl (fun n => true) (fun n => .int (ses (famL L) n)) (fun x => rfl)
        (fun n m G N => et_yes) (fun n m _ G N => lk_ses B N (ev_var rfl) (ev_var rfl) (num_in B m))
    have e3 : ((numsL L).filter fun n => true).map (fun n => V.int (ses (famL L) n)) = ((numsL L).map (ses (famL L))).map V.int := by rw [Evl.filter_all, List.map_map]; rfl
    rw [e3] at lc
    have ss := el_sset (K := K) (w := w) lc lens
    rw [es] at ss
    refine q_asgL ss fun p2 H1 n1 e1 g1 => ?_
    have U1 := U.mono e1
    refine q_asgL (el_lcG (K := K) (j := 3) (vs := [3]) V.int (lostB (famL L)) V.int (ev_var (i := 2) rfl) (sq_of g1) (by omega) (fun x => rfl) (fun b mb H2 e2 => et_and (et_is (et_test (ev_op (ev_var rfl) ev_c (rv_ne rfl))) (by rw [dec_int])) fun _ => et_B (lk_nin B (U1.mono e2).lk (ev_var rfl) (ev_var rfl))) (fun b mb _ H2 e2 => ev_var rfl)) fun p4 H2 n2 e2 g2 => ?_
    have U2 := U1.mono e2
    have lcg := el_lockK (K := K) (t := tYes) (te := tKin K 0 1 2) (σ := [some (.ref kd), none, some (.ref p2), none, some (.ref p4), none, none, none, none, none, none]) (i0 := 0) (j := 1) (vs := [1]) U2 (lenL B) rfl (fun n => true) (fun n => .int (grp (famL L) n)) (fun x => rfl)
        (fun n m G N => et_yes) (fun n m _ G N => lk_grp B N (ev_var rfl) (ev_var rfl) (num_in B m))
    have e4 : ((numsL L).filter fun n => true).map (fun n => V.int (grp (famL L) n)) = ((numsL L).map (grp (famL L))).map V.int := by rw [Evl.filter_all, List.map_map]; rfl
    rw [e4] at lcg
    have gg := el_sset (K := K) (w := w) lcg leng
    rw [eg] at gg
    refine q_asgL (el_lcGN (K := K) (j := 5) (vs := [5]) V.int (emptyB (famL L)) V.int gg (by omega) (fun x => rfl) (fun b mb H3 e3 => ?_) (fun b mb _ H3 e3 => ev_var rfl)) fun p6 H3 n3 e3 g3 => ?_
    · refine et_is (et_and (et_test (ev_op (ev_var rfl) ev_c (rv_ne rfl))) fun _ => et_and (et_B (lk_nin B (U2.mono e3).lk (ev_var rfl) (ev_var rfl))) fun _ => et_test (ev_op (ev_var rfl) (ev_var (i := 4) rfl) (rv_niI (sq_of (e3 _ _ g2))))) ?_
      unfold emptyB
      rw [dec_int]
      rfl
    have U3 := U2.mono e3
    refine q_asgL (el_lst ea_nil (by show 0 ≤ 100000; omega)) fun p7 H4 n4 e4 g4 => ?_
    have U4 := U3.mono e4
    have h2 := e4 _ _ (e3 _ _ (e2 _ _ g1))
    have h4 := e4 _ _ (e3 _ _ g2)
    have h6 := e4 _ _ g3
    have lf : ((sessions (famL L)).filter fun s => decide (s ∈ keys (famL L))).length ≤ 20 := Nat.le_trans (List.length_filter_le _ _) fs
    have lcl : EvL (tLc (iList K (tVar 2)) (gName 3) (tB (tDIn (tVar 3) (tVar 0))) (tVar 3) [3]) [some (.ref kd), none, some (.ref p2), none, some (.ref p4), none, some (.ref p6), some (.ref p7), none, none, none] H4 (((sessions (famL L)).filter fun s => decide (s ∈ keys (famL L))).map V.int) :=
      el_lcG (K := K) (j := 3) (vs := [3]) V.int (fun s => decide (s ∈ keys (famL L))) V.int (ev_var (i := 2) rfl) (sq_of h2) (by omega) (fun x => rfl) (fun b mb H5 e5 => et_B (lk_in B (U4.mono e5).lk (ev_var rfl) (ev_var rfl))) (fun b mb _ H5 e5 => ev_var rfl)
    have led_in : ∀ s ∈ (sessions (famL L)).filter fun s => decide (s ∈ keys (famL L)), s ∈ keys (famL L) ∧ ses (famL L) s = s := fun s ms => by
      obtain ⟨m1, m2⟩ := List.mem_filter.mp ms
      exact ⟨of_decide_eq_true m2, hse s m1 (of_decide_eq_true m2)⟩
    have ext := fits_eq B
    generalize ((sessions (famL L)).filter fun s => decide (s ∈ keys (famL L))) = led at lf lcl led_in ext
    refine q_forNLn (K := K) lcl (fun pl j σ G => ∃ y3 p7' y8 y9 y10, σ = [some (.ref kd), none, some (.ref p2), y3, some (.ref p4), none, some (.ref p6), some (.ref p7'), y8, y9, y10] ∧ Ex H4 G ∧ G pl = some (.lst (led.map V.int)) ∧ G p7' = some (.lst (((led.take j).filter (fits (famL L) L)).map V.int)))
      (fun pl H5 n5 e5 g5 => ⟨none, p7, none, none, none, rfl, e5, g5, e5 _ _ g4⟩) (fun pl j σ' G _ pv => by obtain ⟨_, _, _, _, _, _, _, g, _⟩ := pv; exact sq_of g) ?_ ?_
    · rintro pl j x σ' G hx ⟨y3, p7', y8, y9, y10, rfl, eG, gpl, g7⟩
      obtain ⟨s, es', rfl⟩ := ints_get hx
      obtain ⟨ms, mss⟩ := led_in s (List.mem_of_getElem? es')
      have UG := U4.mono eG
      have c : SpL spLTops ([.ref kd, .int s] ++ []) G ((tops (famL L) s).map V.int) := fun H2 e2 Q q E => ⟨kd, L, s, rfl, (UG.mono e2).lk, B, q⟩
      have ft : (tops (famL L) s).length ≤ 40000 := by
        have := List.length_filter_le (topB (famL L) s) (keys (famL L))
        rw [len_keys] at this
        have := W.few
        unfold tops
        omega
      refine q_asgL (el_lcGN (K := K) (j := 1) (vs := [1]) V.int (fun n => !decide (n = s)) V.int (el_call (ea_cons (ev_var (i := 0) rfl) (ea_cons (ev_var (i := 3) rfl) ea_nil)) c) ft (fun x => rfl) (fun b mb H5 e5 => et_is (et_test (ev_op (ev_var (i := 1) rfl) (ev_var (i := 3) rfl) (rv_ne rfl))) (by rw [dec_int])) (fun b mb _ H5 e5 => ev_var rfl)) fun p8 H5 n5 e5 g5 => ?_
      have U5 := UG.mono e5
      have h65 := e5 _ _ (eG _ _ h6)
      have nk6 : p6 ≠ kd := fun z => by rw [z, U5.top] at h65; cases h65
      refine q_lockL (el_lockF (K := K) (i0 := 0) (j := 1) (vs := [1]) U5 (lenL B) rfl (fun n => decide (ses (famL L) n = s) && decide (grp (famL L) n ∈ empties (famL L))) V.int (fun x => rfl) (fun n mn G' N' fr => et_and (et_is (et_test (ev_op (lk_ses B N' (ev_var (i := 0) rfl) (ev_var (i := 1) rfl) (num_in B mn)) (ev_var (i := 3) rfl) (rv_eq rfl))) (by rw [dec_int])) fun _ => et_test (ev_op (lk_grp B N' (ev_var (i := 0) rfl) (ev_var (i := 1) rfl) (num_in B mn)) (ev_var (i := 6) rfl) (rv_inI (sq_of (fr _ _ nk6 h65))))) (fun n mn _ G' N' => ev_var rfl)) fun p9 H6 n6 e6 g6 => ?_
      have U6 := U5.mono e6
      refine q_lockL (el_lockF (K := K) (i0 := 0) (j := 1) (vs := [1]) U6 (lenL B) rfl (fun n => bearB (famL L) n s) V.int (fun x => rfl) (fun n mn G' N' fr => by
        have c : SpV spLBears ([.ref kd, .int n, .int s] ++ []) G' (.bl (bearB (famL L) n s)) := fun H2 e2 Q q E => ⟨kd, L, n, s, rfl, N'.mono e2, B, num_in B mn, ms, mss, q⟩
        exact et_B (ev_call (ea_cons (ev_var (i := 0) rfl) (ea_cons (ev_var (i := 1) rfl) (ea_cons (ev_var (i := 3) rfl) ea_nil))) c)) (fun n mn _ G' N' => ev_var rfl)) fun p10 H7 n7 e7 g8 => ?_
      have E7 := e5.trans (e6.trans e7)
      have ll : ((led.take j).filter (fits (famL L) L)).length ≤ 20 := by
        have a1 := List.length_filter_le (fits (famL L) L) (led.take j)
        rw [List.length_take] at a1
        omega
      refine s_asgL (el_catV (ev_var (i := 7) rfl) (E7 _ _ g7) (el_repB (ev_var (i := 3) rfl) (ev_andV (ev_neI (ev_var (i := 8) rfl) (e7 _ _ (e6 _ _ g5))) fun _ => ev_andV (ev_nilI (ev_var (i := 9) rfl) (e7 _ _ g6)) fun _ => ev_nilI (ev_var (i := 10) rfl) g8)) (by rw [List.length_map]; split <;> simp <;> omega)) fun p7n H8 n8 e8 g9 => ⟨_, p7n, _, _, _, rfl, eG.trans (E7.trans e8), (E7.trans e8) _ _ gpl, ?_⟩
      rw [g9, List.take_add_one, es', List.filter_append, List.map_append]
      congr 3
      have ef : (!decide (List.filter (fun n => !decide (n = s)) (tops (famL L) s) = []) && (decide (List.filter (fun n => decide (ses (famL L) n = s) && decide (grp (famL L) n ∈ empties (famL L))) (numsL L) = []) && decide (List.filter (fun n => bearB (famL L) n s) (numsL L) = []))) = fits (famL L) L s := rfl
      rw [ef]
      show _ = (List.filter (fits (famL L) L) [s]).map V.int
      cases z : fits (famL L) L s <;> simp [z]
    · rintro pl σ' G ⟨y3, p7', y8, y9, y10, rfl, eG, gpl, g7⟩
      rw [List.length_map, List.take_length, ext] at g7
      refine ⟨_, rfl, _, rfl, _, rfl, by show 3 ≤ sizeLine; decide, fun tp ntp => q _ _ (e1.trans (e2.trans (e3.trans (e4.trans (eG.trans (Ex.new ntp)))))) ?_⟩
      exact .tup upd_same (.cons (.lst ((Ex.new ntp) _ _ (eG _ _ h4)) (dx_ints _)) (.cons (.lst ((Ex.new ntp) _ _ (eG _ _ h6)) (dx_ints _)) (.cons (.lst ((Ex.new ntp) _ _ g7) (dx_ints _)) .nil)))
end
end KB
set_option Elab.async false
set_option linter.all false
set_option maxRecDepth 100000
set_option maxHeartbeats 4000000
namespace KB
open PySem PySem.Spec PyProof.Rows L2 Evl
/-- what no reason tells -/
theorem free_ses {M : Fam} (h : reasons M = []) : ∀ s ∈ sessions M, ∀ n ∈ keys M, barsS M s n = false := fun s ms n mn => by
  unfold reasons at h
  obtain ⟨h1, _⟩ := List.append_eq_nil_iff.mp h
  obtain ⟨h2, _⟩ := List.append_eq_nil_iff.mp h1
  have h3 := List.flatMap_eq_nil_iff.mp h2 s ms
  have h4 := List.map_eq_nil_iff.mp h3
  exact nil_iff.mp h4 n mn
theorem free_led {M : Fam} (h : reasons M = []) : ∀ s ∈ sessions M, s ∈ keys M → ses M s = s := fun s ms mk => by
  have z := free_ses h s ms s mk
  unfold barsS at z
  rw [if_pos mk, if_pos rfl] at z
  by_cases e : ses M s = s
  · exact e
  · rw [decide_eq_false e] at z
    cases z
/-- a family without reasons: its parts -/
theorem free_of {M : Fam} (h1 : ∀ s ∈ sessions M, ∀ n ∈ keys M, barsS M s n = false) (h2 : ∀ g ∈ groups M, splitB M g = false) (h3 : ∀ n ∈ keys M, ring M n = none) : reasons M = [] := by
  unfold reasons
  have a : (sessions M).flatMap (fun s => ((keys M).filter (barsS M s)).map (Rs.session s)) = [] := List.flatMap_eq_nil_iff.mpr fun s ms => by
    rw [nil_iff.mpr (h1 s ms)]
    rfl
  have b : (groups M).filter (splitB M) = [] := nil_iff.mpr h2
  have c : (keys M).filterMap (ring M) = [] := List.filterMap_eq_nil_iff.mpr h3
  rw [a, b, c]
  rfl
/-- no ring where each needed one is born before -/
theorem no_ring {M : Fam} {rk : Int → Nat} (h : ∀ n a, need M n = some a → rk a < rk n) : ∀ n, ring M n = none := fun n => by
  have key : ∀ (k : Nat) (row : List Int) (l : Option Int) (m : Nat), (∀ x ∈ row, x ≠ n → rk x < rk n) → (∀ x, l = some x → rk x < rk n) → (ringGo M k row l).2 ≠ some n := by
    intro k
    induction k with
    | zero =>
      intro row l m _ hl e
      have e : l = some n := e
      exact absurd (hl n e) (Nat.lt_irrefl _)
    | succ k ih =>
      intro row l m hrow hl
      cases l with
      | none => exact fun e => by cases e
      | some x =>
        show (if x ∈ row then (row, some x) else ringGo M k (row ++ [x]) (need M x)).2 ≠ some n
        split
        · intro e
          have e : some x = some n := e
          have := hl x rfl
          rw [Option.some.inj e] at this
          exact absurd this (Nat.lt_irrefl _)
        · refine ih _ _ m (fun y my ny => ?_) fun y hy => Nat.lt_trans (h x y hy) (hl x rfl)
          rcases List.mem_append.mp my with my | my
          · exact hrow y my ny
          · rw [List.mem_singleton.mp my]
            exact hl x rfl
  unfold ring
  have z := key 64 [n] (need M n) 0 (fun x mx nx => absurd (List.mem_singleton.mp mx) nx) (fun x hx => h n x hx)
  exact if_neg fun w => z w.1
end KB
set_option Elab.async false
set_option linter.all false
set_option maxRecDepth 100000
set_option maxHeartbeats 4000000
namespace L2
open PySem PySem.Spec PyProof.Rows
/-- a def of the module called by keyword alone -/
structure KfK (P : Program) (w : World) (K : PySem.W.Frag) (mg : Str → Option Value) (base : Heap) (L : Nat) (x : Str) (a : Str) (sp : Sp) : Prop where
  ex : ∃ k f fd, k ≤ L ∧ FnOk P w K mg base CX0 k f fd [a] sp ∧ PySem.W.keepIn K (.ref f) = true ∧ mg x = some (.ref f) ∧ ∀ (s : Shared) (v : Value), BindsTo s fd ⟨[], [(a, v)]⟩ [(a, v)]
section
variable {X : Cx} {L : Nat} {sp : Sp} {x a : Str} {p pos : Pos} {kws : List Keyword} {tk : TA}
theorem pe_fnK (G : KfK X.prog X.w X.K X.mg X.base L x a sp) (hr : Room L X.A) (hkw : PK X kws tk) (hg : Gl X x := by rfl)
    (hall : (backToKw pos (keywordEach kws X.env)).all (·.1.isSome) = true := by rfl) (hks : (backToKw pos (keywordEach kws X.env)).filterMap (·.1) = [a] := by rfl) (hdb : (x == ("__debug__" : Str)) = false := by decide)
    (hpl : ((backTo pos (starEach [] X.env)).any (·.1) || (backToKw pos (keywordEach kws X.env)).any (·.1.isNone)) = false := by rfl) :
    PE X (.Call (.Name x p) [] kws pos) (tCallK sp kwV E0 tNil tk) := by
  obtain ⟨k, f, fd, hk, F, kp, mg, b⟩ := G.ex
  exact pe_callK0 F (hr.mono hk) hg mg kp (kw_one b) hkw hall hks hdb hpl
end
end L2
namespace KB
open PySem PySem.Spec PyProof.Rows L2 Evl
section
variable {K : PySem.W.Frag} {σ : L2.St} {H H' : Hp} {ta tb tc te : TE} {t : TT} {tz : TS} {D : Ends}
/-- x = f(..), f's promise over any values -/
theorem q_asgC {sp : Sp} {dvs vs : List V} {E : XK} {al : TA} {i : Nat} (h : EvA al σ H vs) (k : ∀ H1, Ex H H1 → sp (vs ++ dvs) H1 (fun v H2 => tz D (σ.set i (some v)) H2) E) : tSeq (tAsg (tCall sp dvs E al) (gName i)) tz D σ H := h H (Ex.refl H) _ fun H1 e => k H1 e
theorem ex_lst3 {d1 d2 d3 : PyData} (h1 : EvX ta σ H d1) (h2 : EvX tb σ H d2) (h3 : EvX tc σ H d3) : EvX (tLst (tCons ta (tCons tb (tCons tc tNil)))) σ H (.list [d1, d2, d3]) := fun H1 e Q q =>
  h1 H1 e _ fun v H2 e2 g2 => h2 H2 (e.trans e2) _ fun u H3 e3 g3 => h3 H3 (e.trans (e2.trans e3)) _ fun w H4 e4 g4 => ⟨by show 3 ≤ sizeLine; decide, fun l nl => q _ _ ((e2.trans (e3.trans e4)).trans (Ex.new nl)) (.lst upd_same (.cons ((g2.mono (e3.trans e4)).mono (Ex.new nl)) (.cons ((g3.mono e4).mono (Ex.new nl)) (.cons (g4.mono (Ex.new nl)) .nil))))⟩
theorem ex_bar {v : V} {M : Fam} (h : Ev ta σ H v) (g : ImgAt H v M) (W : WF M) : EvX (tCall spBar [] E0 (tCons ta tNil)) σ H (optD (barM M)) := fun H1 e Q q =>
  h H1 e _ fun H2 e2 => ⟨v, M, rfl, g.mono (e.trans e2), W, fun v' H' e3 g3 => q v' H' (e2.trans e3) g3⟩
theorem ex_helpers {v : V} {M : Fam} (h : Ev ta σ H v) (g : ImgAt H v M) (W : WF M) : EvX (tCall spHelpers [] E0 (tCons ta tNil)) σ H (helpD M) := fun H1 e Q q =>
  h H1 e _ fun H2 e2 => ⟨v, M, rfl, g.mono (e.trans e2), W, fun p a b c H3 np na nb nc _ _ _ e3 gp ga gb gc => q (.ref p) H3 (e2.trans e3) (.tup gp (.cons (.lst ga (dx_ints _)) (.cons (.lst gb (dx_ints _)) (.cons (.lst gc (dx_ints _)) .nil))))⟩
theorem ex_helpersK {d : PyData} {M : Fam} (h : EvX ta σ H d) (g : ∀ v G, Dx G v d → ImgAt G v M) (W : WF M) : EvX (tCallK spHelpers kwV E0 tNil (tCons ta tNil)) σ H (helpD M) := fun H1 e Q q =>
  h H1 e _ fun v H2 e2 gv => ⟨v, M, rfl, g v H2 gv, W, fun p a b c H3 np na nb nc _ _ _ e3 gp ga gb gc => q (.ref p) H3 (e2.trans e3) (.tup gp (.cons (.lst ga (dx_ints _)) (.cons (.lst gb (dx_ints _)) (.cons (.lst gc (dx_ints _)) .nil))))⟩
/-- f() == [], of data -/
theorem ev_eqNilX {ds : List PyData} (h : EvX ta σ H (.list ds)) (sh : SeqAt.shaped (.list ds) = true) : Ev (tOp (rEqD K) ta (tLst tNil)) σ H (.bl (decide (ds = []))) := fun H1 e Q q =>
  h H1 e _ fun v H2 e2 g => ⟨by show 0 ≤ sizeLine; decide, fun p np => by
    refine ⟨.list ds, .list [], (g.mono (Ex.new np)).dp, .lst (sq_of upd_same) .nil, sh, rfl, ?_⟩
    have : PyData.eqv (.list ds) (.list []) = decide (ds = []) := by cases ds <;> simp [PyData.eqv, PyData.eqvAll]
    rw [this]
    exact q _ (e2.trans (Ex.new np))⟩
end
theorem lost_few {M : Fam} (W : WF M) : (lost M).length ≤ 20 := Nat.le_trans (List.length_filter_le _ _) (ses_few W)
theorem empties_few {M : Fam} (W : WF M) : (empties M).length ≤ 20 := Nat.le_trans (List.length_filter_le _ _) (grp_few W)
theorem further_few {M : Fam} (W : WF M) : (further M).length ≤ 20 := Nat.le_trans (List.length_filter_le _ _) (Nat.le_trans (List.length_filter_le _ _) (ses_few W))
theorem sh_intsD (k : Nat) {ns : List Int} (h : ns.length ≤ 20) : Sh (k + 2) (intsD ns) := ⟨by rw [List.length_map]; omega, sh_ints k ns⟩
theorem sh_help (k : Nat) {M : Fam} (W : WF M) : Sh (k + 3) (helpD M) := ⟨by show 3 ≤ 1000; decide, fun d m => by
  simp only [List.mem_cons, List.not_mem_nil, or_false] at m
  rcases m with rfl | rfl | rfl
  · exact sh_intsD k (lost_few W)
  · exact sh_intsD k (empties_few W)
  · exact sh_intsD k (further_few W)⟩
theorem free_none {M : Fam} (h : Free0 M) : reasons M = [] := by
  obtain ⟨rk, h1, h2, h3⟩ := h
  exact free_of h1 h2 fun n _ => no_ring h3 n
abbrev sRight : Stmt := topS 49
abbrev nRight : List Str := ["_law_box_here", "_law_count", "_law_turn", "_law_kin", "_law_image_so", "_law_due", "_law_found", "_law_some"]
theorem scRight : FnScope nRight ["_law_box_here"] (defScope sRight) := ⟨rfl, rfl, rfl, by decide +kernel, rfl, by decide +kernel, by decide +kernel⟩
def spRight : Sp := fun vs H Q _ => ∃ (p : Addr) (c : Int), vs = [.ref p] ∧ Src H p c ∧ c ≤ 1000 ∧ ∀ H', Off p H H' → Q (.bl true) H'
section
variable {P : Program} {w : World} {K : PySem.W.Frag} {mg : Str → Option Value} {base : Heap} {f : Addr} {fd : FuncData}
theorem ok_right (F : Fun K "_law_right" "_law_right" sRight f fd)
    (G__law_family : Kf P w K mg base 4 "_law_family" ["_law_box_here", "_law_mode", "_law_most"] spFamily) (G__law_image : Kf P w K mg base 1 "_law_image" ["_law_kin"] spImage) (G__law_reasons : Kf P w K mg base 4 "_law_reasons" ["_law_kin"] spReasons)
    (G__law_needed : Kf P w K mg base 2 "_law_needed" ["_law_kin"] spNeeded) (G_helpers : Kf P w K mg base 7 "helpers" ["image"] spHelpers) (GK_helpers : KfK P w K mg base 7 "helpers" "image" spHelpers)
    (G__law_lists : Kf P w K mg base 5 "_law_lists" ["_law_matter"] (spLists 5)) (G__law_same : Kf P w K mg base 5 "_law_same" ["_law_found", "_law_due"] (spSame 5)) (G_bar : Kf P w K mg base 6 "bar" ["image"] spBar)
    (m_range : mg "range" = none) : FnOk P w K mg base CX0 8 f fd ["_law_box_here"] spRight := by
  refine F.ok scRight (fun vs H Q E h => ?_) (fun cdv A outer s H vs Q E hr h => ?_)
  · obtain ⟨p, c, rfl, _⟩ := h
    rfl
  · obtain ⟨p, c, rfl, S, hc, q⟩ := h
    have nd := scRight.nd
    have hu := hu_of hr
    refine ⟨_, (pss_cons (ps_set (i := 1) nd rfl (by first | exact .inl rfl | exact .inr rfl) pe_int)
      (pss_cons (ps_for PassesOwn.never rfl (pi_range1 (by rfl) m_range (pa_cons pe_int pa_nil)) (pg_name (i := 2) nd rfl (by first | exact .inl rfl | exact .inr rfl)) (pss_cons (ps_set (i := 3) nd rfl (by first | exact .inl rfl | exact .inr rfl) (pe_fn G__law_family (hr.mono (by decide)) (pa_cons (pv 0) (pa_cons (pe_ix ix_list (pe_lst (pa_cons pe_int (pa_cons pe_int (pa_cons pe_int (pa_cons pe_int pa_nil))))) (pe_op op_mod (pv 2) pe_int) (fun _ _ => rfl)) (pa_cons pe_int pa_nil)))))
      (pss_cons (ps_set (i := 4) nd rfl (by first | exact .inl rfl | exact .inr rfl) (pe_fn G__law_image (hr.mono (by decide)) (pa_cons (pv 3) pa_nil)))
      (pss_one (ps_if (pt_cmpR (op_eqD hr.units) (pe_fn G__law_reasons (hr.mono (by decide)) (pa_cons (pv 3) pa_nil)) (pe_lst pa_nil) (nomark _)) (pss_cons (ps_par (i := 5) (j := 1) (by rfl) nd rfl rfl (by decide) rfl rfl (pa_cons (pe_fn G__law_needed (hr.mono (by decide)) (pa_cons (pv 3) pa_nil)) (pa_cons (pe_op op_add (pv 1) pe_int) pa_nil)) (by rfl))
      (pss_cons (ps_set (i := 6) nd rfl (by first | exact .inl rfl | exact .inr rfl) (pe_fn G_helpers (hr.mono (by decide)) (pa_cons (pv 4) pa_nil)))
      (pss_cons (ps_if (pt_not (pt_val (pe_fn G__law_same (hr.mono (by decide)) (pa_cons (pe_lst (pa_cons (pv 6) (pa_cons (pe_fnK GK_helpers (hr.mono (by decide)) (pk_cons (pe_fn G__law_lists (hr.mono (by decide)) (pa_cons (pv 4) pa_nil)) pk_nil)) (pa_cons (pe_fn G_bar (hr.mono (by decide)) (pa_cons (pv 4) pa_nil)) pa_nil)))) (pa_cons (pe_lst (pa_cons (pv 5) (pa_cons (pv 5) (pa_cons pe_non pa_nil)))) pa_nil))))) (pss_one (ps_ret pe_bl)) pss_nil)
      (pss_cons (ps_for PassesOwn.never rfl (pi_tup (pv 6)) (pg_name (i := 7) nd rfl (by first | exact .inl rfl | exact .inr rfl)) (pss_one (ps_expr (pe_bm PySem.F.plainAttrs_list PySem.F.slot_list_append PySem.F.type_list_append mt_append (pv 7) (pa_cons pe_int pa_nil)))))
      (pss_one (ps_if (pt_not (pt_val (pe_fn G__law_same (hr.mono (by decide)) (pa_cons (pe_fn G_helpers (hr.mono (by decide)) (pa_cons (pv 4) pa_nil)) (pa_cons (pv 5) pa_nil))))) (pss_one (ps_ret pe_bl)) pss_nil)))))) pss_nil)))))
      (pss_one (ps_ret (pe_cmpR op_gt (pv 1) pe_int (nomark _)))))), ?_⟩
    refine q_asg ev_c fun H0 e0 => ?_
    refine ⟨18, rfl, by decide, by decide, ?_⟩
    refine for_it (walk_range (lo := 0) (n := 18)) (fun i σ G => (∃ (k : Int) (y2 y3 y4 y5 y6 y7 : Option V), 0 ≤ k ∧ (i ≠ 0 → 0 < k) ∧ σ = [some (.ref p), some (.int k), y2, y3, y4, y5, y6, y7]) ∧ Off p H G ∧ ∃ c1 : Int, Src G p c1 ∧ c1 ≤ 1000 + 200 * (i : Int))
      ⟨⟨0, _, _, _, _, _, _, by decide, fun z => absurd rfl z, rfl⟩, (fun b o _ h => e0 b o h), c, S.ex e0, by omega⟩ (fun _ _ _ _ _ => True.intro) ?_ ?_
    · rintro i x σ _ G hi ⟨⟨k, y2, y3, y4, y5, y6, y7, k0, k1, rfl⟩, oG, c1, S1, hc1⟩ ⟨rfl, rfl⟩
      obtain ⟨md, md0, md1, mdi, mda⟩ : ∃ md : Int, 0 ≤ md ∧ md ≤ 2 ∧ (i = 0 → md = 0) ∧ atI [V.int 0, .int 0, .int 1, .int 0] ((0 + (i : Int)) % 4) = some (.int md) := by
        obtain ⟨j, hj, ej⟩ : ∃ j : Nat, j < 4 ∧ (0 + (i : Int)) % 4 = (j : Int) := ⟨((0 + (i : Int)) % 4).toNat, by omega, by omega⟩
        rw [ej]
        have : j = 0 ∨ j = 1 ∨ j = 2 ∨ j = 3 := by omega
        rcases this with rfl | rfl | rfl | rfl
        · exact ⟨0, by decide, by decide, fun _ => rfl, atI_nat rfl⟩
        · exact ⟨0, by decide, by decide, fun _ => rfl, atI_nat rfl⟩
        · exact ⟨1, by decide, by decide, fun z => by subst z; simp at ej, atI_nat rfl⟩
        · exact ⟨0, by decide, by decide, fun _ => rfl, atI_nat rfl⟩
      have ea : EvA (tCons (tVar 0) (tCons (tOp (rIxL K) (tLst (tCons (tC (.int 0)) (tCons (tC (.int 0)) (tCons (tC (.int 1)) (tCons (tC (.int 0)) tNil))))) (tOp (rI (fun _ j => 0 < j) fun i j => .int (i % j)) (tVar 2) (tC (.int 4)))) (tCons (tC (.int 11)) tNil))) [some (.ref p), some (.int k), some (.int (0 + (i : Int))), y3, y4, y5, y6, y7] G [.ref p, .int md, .int 11] :=
        ea_cons (ev_var rfl) (ea_cons (ev_opL1 (el_lst (ea_cons ev_c (ea_cons ev_c (ea_cons ev_c (ea_cons ev_c ea_nil)))) (by show 4 ≤ 100000; omega)) (fun G' _ => ev_op (ev_var rfl) ev_c (rv_I (show (0 : Int) < 4 by decide))) (fun l G1 gl _ => rv_ixL (sq_of gl) mda)) (ea_cons ev_c ea_nil))
      refine q_asgC ea fun G0 eg => ?_
      refine ⟨p, c1, md, 11, rfl, S1.ex eg, by omega, md0, md1, by decide, by decide, fun kd L c2 G1 o1 U B bd ap fr S2 c20 c21 => ?_⟩
      have W := wfL B
      have sm := small_of B bd
      have nT := nice_img sm true
      have shT : Sh 5 (imgD true (famL L)) := nT.sh
      refine q_asgX (d := imgD true (famL L)) (ex_call (ea_cons (ev_var rfl) ea_nil) fun H1 e1 Q q E => ⟨kd, L, rfl, (U.mono e1).lk, B, q⟩) fun im G2 e2 gi => ?_
      have U2 := U.mono e2
      have o2 := (((ex_off eg).trans o1).ex e2)
      have S3 := S2.ex e2
      refine s_when (et_test (ev_eqNilX (ds := (reasons (famL L)).map rsD) (ex_call (ea_cons (ev_var rfl) ea_nil) fun H1 e1 Q q E => ⟨kd, L, rfl, U2.mono e1, B, q⟩) (shaped_rs _))) (fun hb G3 e3 => ?_) (fun hb G3 e3 => ?_)
      · have rz : reasons (famL L) = [] := List.map_eq_nil_iff.mp (of_decide_eq_true hb)
        have U3 := U2.mono e3
        have bn : optD (barM (famL L)) = .none := by unfold barM; rw [rz]; rfl
        refine q_parXV (d1 := helpD (famL L)) (v2 := .int (k + 1)) (ex_call (ea_cons (ev_var rfl) ea_nil) fun H1 e1 Q q E => ⟨kd, L, rfl, U3.mono e1, B, free_led rz, q⟩) (ev_op (ev_var rfl) ev_c rv_I0) fun du G4 e4 gd => ?_
        have gi4 := gi.mono (e3.trans e4)
        have o4 := o2.ex (e3.trans e4)
        have S5 := S3.ex (e3.trans e4)
        refine ⟨_, rfl, im, famL L, rfl, gi4.img, W, fun fp a b c' G5 np na nb nc nab nac nbc e5 gp ga gb gc => ?_⟩
        have gF : Dx G5 (.ref fp) (helpD (famL L)) := .tup gp (.cons (.lst ga (dx_ints _)) (.cons (.lst gb (dx_ints _)) (.cons (.lst gc (dx_ints _)) .nil)))
        have shD : Sh 5 (.list [helpD (famL L), helpD (famL L), .none]) := ⟨by show 3 ≤ 1000; decide, fun d m => by
          simp only [List.mem_cons, List.not_mem_nil, or_false] at m
          rcases m with rfl | rfl | rfl
          · exact sh_help 1 W
          · exact sh_help 1 W
          · exact True.intro⟩
        have gi5 := gi4.mono e5
        have gd5 := gd.mono e5
        refine q_if (et_not (et_B (ev_same (d := .list [helpD (famL L), helpD (famL L), .none]) (ex_lst3 (ev_x (ev_var rfl) gF) (ex_helpersK (d := imgD false (famL L)) (by rw [← lists_img]; exact ex_lists (ev_var rfl) gi5 shT) (fun v G g => g.img) W) (by rw [← bn]; exact ex_bar (ev_var rfl) gi5.img W)) (ex_lst3 (ev_x (ev_var rfl) gd5) (ev_x (ev_var rfl) gd5) (ev_x ev_c .non)) shD))) (fun hb => nomatch hb) (fun _ G6 e6 => ?_)
        have e56 := e5.trans e6
        have nap : a ≠ p := fun z => by
          obtain ⟨_, _, h, _⟩ := S5
          rw [z, h] at na
          cases na
        refine q_forT (K := K) (a := fp) (xs := [.ref a, .ref b, .ref c']) (ev_var rfl) (.of (e6 _ _ gp)) (fun j σ G => (∃ y7 : Option V, σ = [some (.ref p), some (.int (k + 1)), some (.int (0 + (i : Int))), some (.ref kd), some im, some du, some (.ref fp), y7]) ∧ Ex G4 G ∧ G fp = some (.tup [.ref a, .ref b, .ref c']) ∧
            ∃ xa xb xc : List V, G a = some (.lst xa) ∧ G b = some (.lst xb) ∧ G c' = some (.lst xc) ∧ xa.length ≤ 30 + j ∧ xb.length ≤ 30 + j ∧ xc.length ≤ 30 + j)
          (fun G7 e7 => ⟨⟨_, rfl⟩, e56.trans e7, e7 _ _ (e6 _ _ gp), _, _, _, e7 _ _ (e6 _ _ ga), e7 _ _ (e6 _ _ gb), e7 _ _ (e6 _ _ gc), ?_, ?_, ?_⟩) (fun j σ G _ h => .of h.2.2.1) ?_ ?_
        · rw [List.length_map]; have := lost_few W; omega
        · rw [List.length_map]; have := empties_few W; omega
        · rw [List.length_map]; have := further_few W; omega
        · rintro j x σ G7 hj ⟨⟨y7, rfl⟩, e7, gp7, xa, xb, xc, ga7, gb7, gc7, la, lb, lc⟩
          have j3 : j < 3 := (List.getElem?_eq_some_iff.mp hj).1
          have pne : ∀ {z : Addr} {zs : List V}, G7 z = some (.lst zs) → fp ≠ z := fun h w => by rw [← w, gp7] at h; cases h
          have : j = 0 ∨ j = 1 ∨ j = 2 := by omega
          rcases this with rfl | rfl | rfl
          · obtain rfl : V.ref a = x := by simpa using hj
            refine s_app ga7 (ev_var rfl) ev_c (by omega) fun G8 e8 => ⟨⟨_, rfl⟩, (e7.trans e8).mut na, (upd_ne (pne ga7)).trans (e8 _ _ gp7), _, _, _, upd_same, (upd_ne nab.symm).trans (e8 _ _ gb7), (upd_ne nac.symm).trans (e8 _ _ gc7), ?_, by omega, by omega⟩
            rw [List.length_append]
            show xa.length + 1 ≤ _
            omega
          · obtain rfl : V.ref b = x := by simpa using hj
            refine s_app gb7 (ev_var rfl) ev_c (by omega) fun G8 e8 => ⟨⟨_, rfl⟩, (e7.trans e8).mut nb, (upd_ne (pne gb7)).trans (e8 _ _ gp7), _, _, _, (upd_ne nab).trans (e8 _ _ ga7), upd_same, (upd_ne nbc.symm).trans (e8 _ _ gc7), by omega, ?_, by omega⟩
            rw [List.length_append]
            show xb.length + 1 ≤ _
            omega
          · obtain rfl : V.ref c' = x := by simpa using hj
            refine s_app gc7 (ev_var rfl) ev_c (by omega) fun G8 e8 => ⟨⟨_, rfl⟩, (e7.trans e8).mut nc, (upd_ne (pne gc7)).trans (e8 _ _ gp7), _, _, _, (upd_ne nac).trans (e8 _ _ ga7), (upd_ne nbc).trans (e8 _ _ gb7), upd_same, by omega, by omega, ?_⟩
            rw [List.length_append]
            show xc.length + 1 ≤ _
            omega
        · rintro σ G7 ⟨⟨y7, rfl⟩, e7, _⟩
          have gi7 := gi4.mono e7
          have gd7 := gd.mono e7
          refine s_if (et_not (et_B (ev_same (d := helpD (famL L)) (ex_helpers (ev_var rfl) gi7.img W) (ev_x (ev_var rfl) gd7) (sh_help 2 W)))) (fun hb => nomatch hb) (fun _ G8 e8 => ?_)
          exact ⟨⟨k + 1, _, _, _, _, _, _, by omega, fun _ => by omega, rfl⟩, oG.trans (o4.ex (e7.trans e8)), c2, S5.ex (e7.trans e8), by omega⟩
      · refine ⟨⟨k, _, _, _, _, _, _, k0, fun _ => ?_, rfl⟩, oG.trans (o2.ex e3), c2, S3.ex e3, by omega⟩
        by_cases z : i = 0
        · have := free_none (fr (mdi z))
          rw [this] at hb
          cases hb
        · exact k1 z
    · rintro σ G ⟨⟨k, y2, y3, y4, y5, y6, y7, k0, k1, rfl⟩, oG, _⟩
      refine ⟨_, rfl, _, _, rfl, rfl, ?_⟩
      show Q (V.bl (decide (0 < k))) G
      rw [decide_eq_true (k1 (by decide))]
      exact q _ oG
end
end KB
set_option Elab.async false
set_option linter.all false
set_option maxRecDepth 100000
set_option maxHeartbeats 4000000
namespace KB
open PySem PySem.Spec PyProof.Rows L2 Evl
abbrev sLaw : Stmt := topS 50
abbrev nLaw : List Str := ["_law_script", "_law_k"]
theorem scLaw : FnScope nLaw ["_law_script"] (defScope sLaw) := ⟨rfl, rfl, rfl, by decide +kernel, rfl, by decide +kernel, by decide +kernel⟩
def spLaw (K : PySem.W.Frag) : Sp := fun vs H Q _ => ∃ (a : Addr) (ns : List Int), vs = [.ref a] ∧ SqL K H a (ns.map V.int) ∧ ns.length ≤ 63 ∧ ∀ H', Q (.bl true) H'
section
variable {P : Program} {w : World} {K : PySem.W.Frag} {mg : Str → Option Value} {base : Heap} {f fB fR : Addr} {fd dB dR : FuncData}
theorem ok_law (F : Fun K "law" "law" sLaw f fd) (G__law_box : Kf P w K mg base 1 "_law_box" ["_law_script", "_law_k"] (spBox K)) (G__law_right : Kf P w K mg base 8 "_law_right" ["_law_box_here"] spRight)
    (m_range : mg "range" = none) (m_len : mg "len" = none) (m_all : mg "all" = none) (m_min : mg "min" = none) : FnOk P w K mg base CX0 9 f fd ["_law_script"] (spLaw K) := by
  refine F.ok scLaw (fun vs H Q E h => ?_) (fun cdv A outer s H vs Q E hr h => ?_)
  · obtain ⟨a, ns, rfl, _⟩ := h
    rfl
  · obtain ⟨a, ns, rfl, hS, hn, q⟩ := h
    refine ⟨_, pss_one (ps_ret (pe_callB (cr_all rfl) (by rfl) m_all (by decide +kernel) (pa_cons (pe_lc (own := [("_law_k", 1)]) (g := gName 1) (tt := tYes) rfl scLaw.nd (pi_range1 (by rfl) m_range (pa_cons (pe_op op_add pe_int (pe_callB (call_min2 rfl) (by rfl) m_min (by decide +kernel) (pa_cons pe_int (pa_cons (pe_callB call_len_seq (by rfl) m_len PySem.boot_len (pa_cons (pv 0) pa_nil)) pa_nil)))) pa_nil)) (blkOk_by (N := nLaw) (sc := defScope sLaw) (by decide +kernel))
        (fun _ _ _ _ _ => pg_name (i := 1) scLaw.nd rfl (Or.inl rfl)) (fun _ _ _ _ _ => pts_nil) (fun _ _ _ _ _ => pe_fn G__law_right (hr.mono (by decide)) (pa_cons (pe_fn G__law_box (hr.mono (by decide)) (pa_cons (pv 0) (pa_cons (pv 1) pa_nil))) pa_nil))) pa_nil))), ?_⟩
    refine ⟨_, rfl, a, _, rfl, .inl hS, ?_⟩
    rw [List.length_map]
    obtain ⟨m, hm, hm3⟩ : ∃ m : Nat, (1 + (if (ns.length : Int) < 2 then (ns.length : Int) else 2)) = (m : Int) ∧ m ≤ 3 := by
      by_cases z : (ns.length : Int) < 2
      · rw [if_pos z]
        exact ⟨1 + ns.length, by omega, by omega⟩
      · rw [if_neg z]
        exact ⟨3, rfl, Nat.le_refl _⟩
    refine ⟨2, _, rfl, _, _, rfl, rfl, ?_⟩
    dsimp only
    rw [hm]
    refine ⟨_, rfl, by omega, by omega, fun D nD => ?_⟩
    rw [Int.toNat_natCast]
    refine lc_it (walk_range (lo := 0) (n := m)) (fun j G => Ex H G ∧ G D = some (.lst ((List.replicate j true).map V.bl))) ⟨Ex.new nD, upd_same⟩ (fun _ _ _ _ => True.intro) ?_ ?_
    · rintro j x G G2 hj ⟨eG, gD⟩ ⟨rfl, rfl⟩
      refine ⟨rfl, _, rfl, _, rfl, a, ns, j, by simp, ex_l eG hS, by omega, fun src G5 nsrc sq S0 => ?_⟩
      have n2 : D ≠ src := fun z => by
        rw [← z, gD] at nsrc
        cases nsrc
      have nH := fresh_back eG nsrc
      refine ⟨src, 0, rfl, S0, by decide, fun G6 b6 => ?_⟩
      refine ⟨_, b6 _ _ n2 (sq _ _ gD), ?_, Ex.mut (fun b o h => b6 b o (fun z => by rw [z, nH] at h; cases h) (sq _ _ (eG _ _ h))) nD, ?_⟩
      · rw [List.length_map, List.length_replicate]
        exact Nat.lt_of_le_of_lt (show j ≤ 10 by omega) (by decide)
      · rw [upd_same, List.replicate_succ', List.map_append]
        rfl
    · rintro G ⟨_, gD⟩
      refine ⟨D, _, rfl, sq_of gD, ?_⟩
      rw [show ((List.replicate m true).all id) = true from by simp]
      exact q _
end
end KB
set_option Elab.async false
set_option linter.all false
set_option maxRecDepth 100000
set_option maxHeartbeats 4000000
namespace KY
open PySem PySem.Spec PyProof.Rows L2 Evl
theorem all_mk {l : PySem.W.OpenLaw} {w : World} {K : PySem.W.Frag} {h : Heap} {mg : Str → Option Value} {fa : Addr} (X : K.In h) (G : h.Ns mainGlobals mg) (hfa : mg "law" = some (.ref fa))
    {cKin : Addr}
    {f0 : Addr} {oc0 kV0 dc0 pm0 cd0 ct0 : Value} {od0 an0 : Option Addr} {sl0 : Array (Option Value)}
    {f1 : Addr} {oc1 kV1 dc1 pm1 cd1 ct1 : Value} {od1 an1 : Option Addr} {sl1 : Array (Option Value)}
    {f2 : Addr} {oc2 kV2 dc2 pm2 cd2 ct2 : Value} {od2 an2 : Option Addr} {sl2 : Array (Option Value)}
    {f3 : Addr} {oc3 kV3 dc3 pm3 cd3 ct3 : Value} {od3 an3 : Option Addr} {sl3 : Array (Option Value)}
    {f4 : Addr} {oc4 kV4 dc4 pm4 cd4 ct4 : Value} {od4 an4 : Option Addr} {sl4 : Array (Option Value)}
    {f5 : Addr} {oc5 kV5 dc5 pm5 cd5 ct5 : Value} {od5 an5 : Option Addr} {sl5 : Array (Option Value)}
    {f6 : Addr} {oc6 kV6 dc6 pm6 cd6 ct6 : Value} {od6 an6 : Option Addr} {sl6 : Array (Option Value)}
    {f7 : Addr} {oc7 kV7 dc7 pm7 cd7 ct7 : Value} {od7 an7 : Option Addr} {sl7 : Array (Option Value)}
    {f8 : Addr} {oc8 kV8 dc8 pm8 cd8 ct8 : Value} {od8 an8 : Option Addr} {sl8 : Array (Option Value)}
    {f9 : Addr} {oc9 kV9 dc9 pm9 cd9 ct9 : Value} {od9 an9 : Option Addr} {sl9 : Array (Option Value)}
    {f10 : Addr} {oc10 kV10 dc10 pm10 cd10 ct10 : Value} {od10 an10 : Option Addr} {sl10 : Array (Option Value)}
    {f11 : Addr} {oc11 kV11 dc11 pm11 cd11 ct11 : Value} {od11 an11 : Option Addr} {sl11 : Array (Option Value)}
    {f12 : Addr} {oc12 kV12 dc12 pm12 cd12 ct12 : Value} {od12 an12 : Option Addr} {sl12 : Array (Option Value)}
    {f13 : Addr} {oc13 kV13 dc13 pm13 cd13 ct13 : Value} {od13 an13 : Option Addr} {sl13 : Array (Option Value)}
    {f14 : Addr} {oc14 kV14 dc14 pm14 cd14 ct14 : Value} {od14 an14 : Option Addr} {sl14 : Array (Option Value)}
    {f15 : Addr} {oc15 kV15 dc15 pm15 cd15 ct15 : Value} {od15 an15 : Option Addr} {sl15 : Array (Option Value)}
    {f16 : Addr} {oc16 kV16 dc16 pm16 cd16 ct16 : Value} {od16 an16 : Option Addr} {sl16 : Array (Option Value)}
    {f17 : Addr} {oc17 kV17 dc17 pm17 cd17 ct17 : Value} {od17 an17 : Option Addr} {sl17 : Array (Option Value)}
    {f18 : Addr} {oc18 kV18 dc18 pm18 cd18 ct18 : Value} {od18 an18 : Option Addr} {sl18 : Array (Option Value)}
    {f19 : Addr} {oc19 kV19 dc19 pm19 cd19 ct19 : Value} {od19 an19 : Option Addr} {sl19 : Array (Option Value)}
    {f20 : Addr} {oc20 kV20 dc20 pm20 cd20 ct20 : Value} {od20 an20 : Option Addr} {sl20 : Array (Option Value)}
    {f21 : Addr} {oc21 kV21 dc21 pm21 cd21 ct21 : Value} {od21 an21 : Option Addr} {sl21 : Array (Option Value)}
    {f22 : Addr} {oc22 kV22 dc22 pm22 cd22 ct22 : Value} {od22 an22 : Option Addr} {sl22 : Array (Option Value)}
    {f23 : Addr} {oc23 kV23 dc23 pm23 cd23 ct23 : Value} {od23 an23 : Option Addr} {sl23 : Array (Option Value)}
    {f24 : Addr} {oc24 kV24 dc24 pm24 cd24 ct24 : Value} {od24 an24 : Option Addr} {sl24 : Array (Option Value)}
    {f25 : Addr} {oc25 kV25 dc25 pm25 cd25 ct25 : Value} {od25 an25 : Option Addr} {sl25 : Array (Option Value)}
    {f26 : Addr} {oc26 kV26 dc26 pm26 cd26 ct26 : Value} {od26 an26 : Option Addr} {sl26 : Array (Option Value)}
    {f27 : Addr} {oc27 kV27 dc27 pm27 cd27 ct27 : Value} {od27 an27 : Option Addr} {sl27 : Array (Option Value)}
    {f28 : Addr} {oc28 kV28 dc28 pm28 cd28 ct28 : Value} {od28 an28 : Option Addr} {sl28 : Array (Option Value)}
    {f29 : Addr} {oc29 kV29 dc29 pm29 cd29 ct29 : Value} {od29 an29 : Option Addr} {sl29 : Array (Option Value)}
    {f30 : Addr} {oc30 kV30 dc30 pm30 cd30 ct30 : Value} {od30 an30 : Option Addr} {sl30 : Array (Option Value)}
    {f31 : Addr} {oc31 kV31 dc31 pm31 cd31 ct31 : Value} {od31 an31 : Option Addr} {sl31 : Array (Option Value)}
    {f32 : Addr} {oc32 kV32 dc32 pm32 cd32 ct32 : Value} {od32 an32 : Option Addr} {sl32 : Array (Option Value)}
    {f33 : Addr} {oc33 kV33 dc33 pm33 cd33 ct33 : Value} {od33 an33 : Option Addr} {sl33 : Array (Option Value)}
    {f34 : Addr} {oc34 kV34 dc34 pm34 cd34 ct34 : Value} {od34 an34 : Option Addr} {sl34 : Array (Option Value)}
    {f35 : Addr} {oc35 kV35 dc35 pm35 cd35 ct35 : Value} {od35 an35 : Option Addr} {sl35 : Array (Option Value)}
    {f36 : Addr} {oc36 kV36 dc36 pm36 cd36 ct36 : Value} {od36 an36 : Option Addr} {sl36 : Array (Option Value)}
    {f37 : Addr} {oc37 kV37 dc37 pm37 cd37 ct37 : Value} {od37 an37 : Option Addr} {sl37 : Array (Option Value)}
    {f38 : Addr} {oc38 kV38 dc38 pm38 cd38 ct38 : Value} {od38 an38 : Option Addr} {sl38 : Array (Option Value)}
    {f39 : Addr} {oc39 kV39 dc39 pm39 cd39 ct39 : Value} {od39 an39 : Option Addr} {sl39 : Array (Option Value)}
    {f40 : Addr} {oc40 kV40 dc40 pm40 cd40 ct40 : Value} {od40 an40 : Option Addr} {sl40 : Array (Option Value)}
    {f41 : Addr} {oc41 kV41 dc41 pm41 cd41 ct41 : Value} {od41 an41 : Option Addr} {sl41 : Array (Option Value)}
    {f42 : Addr} {oc42 kV42 dc42 pm42 cd42 ct42 : Value} {od42 an42 : Option Addr} {sl42 : Array (Option Value)}
    {f43 : Addr} {oc43 kV43 dc43 pm43 cd43 ct43 : Value} {od43 an43 : Option Addr} {sl43 : Array (Option Value)}
    {f44 : Addr} {oc44 kV44 dc44 pm44 cd44 ct44 : Value} {od44 an44 : Option Addr} {sl44 : Array (Option Value)}
    {f45 : Addr} {oc45 kV45 dc45 pm45 cd45 ct45 : Value} {od45 an45 : Option Addr} {sl45 : Array (Option Value)}
    {f46 : Addr} {oc46 kV46 dc46 pm46 cd46 ct46 : Value} {od46 an46 : Option Addr} {sl46 : Array (Option Value)}
    {tFIRST : Tok}
    (gKin : PySem.W.nsIn K mainGlobals "Kin" = some (some (.ref cKin)))
    (a0 : PySem.W.nsIn K mainGlobals "sessions_of" = some (some (.ref f0)))
    (l0 : K.lookup f0 = some ⟨oc0, od0, .func (PySem.W.fnOf "sessions_of" "sessions_of" (defArgs KB.sSessions) (defBody KB.sSessions) (defScope KB.sSessions) .none kV0 dc0 pm0 an0 cd0 ct0), sl0⟩)
    (c0 : PySem.W.codeIn K cd0 "sessions_of" = true)
    (k0 : PySem.W.keepIn K (.ref f0) = true)
    (a1 : PySem.W.nsIn K mainGlobals "groups_of" = some (some (.ref f1)))
    (l1 : K.lookup f1 = some ⟨oc1, od1, .func (PySem.W.fnOf "groups_of" "groups_of" (defArgs KB.sGroups) (defBody KB.sGroups) (defScope KB.sGroups) .none kV1 dc1 pm1 an1 cd1 ct1), sl1⟩)
    (c1 : PySem.W.codeIn K cd1 "groups_of" = true)
    (k1 : PySem.W.keepIn K (.ref f1) = true)
    (a2 : PySem.W.nsIn K mainGlobals "is_led" = some (some (.ref f2)))
    (l2 : K.lookup f2 = some ⟨oc2, od2, .func (PySem.W.fnOf "is_led" "is_led" (defArgs KB.sIsLed) (defBody KB.sIsLed) (defScope KB.sIsLed) .none kV2 dc2 pm2 an2 cd2 ct2), sl2⟩)
    (c2 : PySem.W.codeIn K cd2 "is_led" = true)
    (k2 : PySem.W.keepIn K (.ref f2) = true)
    (a3 : PySem.W.nsIn K mainGlobals "is_top" = some (some (.ref f3)))
    (l3 : K.lookup f3 = some ⟨oc3, od3, .func (PySem.W.fnOf "is_top" "is_top" (defArgs KB.sIsTop) (defBody KB.sIsTop) (defScope KB.sIsTop) .none kV3 dc3 pm3 an3 cd3 ct3), sl3⟩)
    (c3 : PySem.W.codeIn K cd3 "is_top" = true)
    (k3 : PySem.W.keepIn K (.ref f3) = true)
    (a4 : PySem.W.nsIn K mainGlobals "tops" = some (some (.ref f4)))
    (l4 : K.lookup f4 = some ⟨oc4, od4, .func (PySem.W.fnOf "tops" "tops" (defArgs KB.sTops) (defBody KB.sTops) (defScope KB.sTops) .none kV4 dc4 pm4 an4 cd4 ct4), sl4⟩)
    (c4 : PySem.W.codeIn K cd4 "tops" = true)
    (k4 : PySem.W.keepIn K (.ref f4) = true)
    (a5 : PySem.W.nsIn K mainGlobals "other_tops" = some (some (.ref f5)))
    (l5 : K.lookup f5 = some ⟨oc5, od5, .func (PySem.W.fnOf "other_tops" "other_tops" (defArgs KB.sOthers) (defBody KB.sOthers) (defScope KB.sOthers) .none kV5 dc5 pm5 an5 cd5 ct5), sl5⟩)
    (c5 : PySem.W.codeIn K cd5 "other_tops" = true)
    (k5 : PySem.W.keepIn K (.ref f5) = true)
    (a6 : PySem.W.nsIn K mainGlobals "all_above" = some (some (.ref f6)))
    (l6 : K.lookup f6 = some ⟨oc6, od6, .func (PySem.W.fnOf "all_above" "all_above" (defArgs KB.sAbove) (defBody KB.sAbove) (defScope KB.sAbove) .none kV6 dc6 pm6 an6 cd6 ct6), sl6⟩)
    (c6 : PySem.W.codeIn K cd6 "all_above" = true)
    (k6 : PySem.W.keepIn K (.ref f6) = true)
    (a7 : PySem.W.nsIn K mainGlobals "adopter_over" = some (some (.ref f7)))
    (l7 : K.lookup f7 = some ⟨oc7, od7, .func (PySem.W.fnOf "adopter_over" "adopter_over" (defArgs KB.sAdopter) (defBody KB.sAdopter) (defScope KB.sAdopter) .none kV7 dc7 pm7 an7 cd7 ct7), sl7⟩)
    (c7 : PySem.W.codeIn K cd7 "adopter_over" = true)
    (k7 : PySem.W.keepIn K (.ref f7) = true)
    (a8 : PySem.W.nsIn K mainGlobals "bars_session" = some (some (.ref f8)))
    (l8 : K.lookup f8 = some ⟨oc8, od8, .func (PySem.W.fnOf "bars_session" "bars_session" (defArgs KB.sBarsS) (defBody KB.sBarsS) (defScope KB.sBarsS) .none kV8 dc8 pm8 an8 cd8 ct8), sl8⟩)
    (c8 : PySem.W.codeIn K cd8 "bars_session" = true)
    (k8 : PySem.W.keepIn K (.ref f8) = true)
    (a9 : PySem.W.nsIn K mainGlobals "bars_group" = some (some (.ref f9)))
    (l9 : K.lookup f9 = some ⟨oc9, od9, .func (PySem.W.fnOf "bars_group" "bars_group" (defArgs KB.sBarsG) (defBody KB.sBarsG) (defScope KB.sBarsG) .none kV9 dc9 pm9 an9 cd9 ct9), sl9⟩)
    (c9 : PySem.W.codeIn K cd9 "bars_group" = true)
    (k9 : PySem.W.keepIn K (.ref f9) = true)
    (a10 : PySem.W.nsIn K mainGlobals "first_session" = some (some (.ref f10)))
    (l10 : K.lookup f10 = some ⟨oc10, od10, .func (PySem.W.fnOf "first_session" "first_session" (defArgs KB.sFirstS) (defBody KB.sFirstS) (defScope KB.sFirstS) .none kV10 dc10 pm10 an10 cd10 ct10), sl10⟩)
    (c10 : PySem.W.codeIn K cd10 "first_session" = true)
    (k10 : PySem.W.keepIn K (.ref f10) = true)
    (a11 : PySem.W.nsIn K mainGlobals "first_group" = some (some (.ref f11)))
    (l11 : K.lookup f11 = some ⟨oc11, od11, .func (PySem.W.fnOf "first_group" "first_group" (defArgs KB.sFirstG) (defBody KB.sFirstG) (defScope KB.sFirstG) .none kV11 dc11 pm11 an11 cd11 ct11), sl11⟩)
    (c11 : PySem.W.codeIn K cd11 "first_group" = true)
    (k11 : PySem.W.keepIn K (.ref f11) = true)
    (a12 : PySem.W.nsIn K mainGlobals "needs" = some (some (.ref f12)))
    (l12 : K.lookup f12 = some ⟨oc12, od12, .func (PySem.W.fnOf "needs" "needs" (defArgs KB.sNeeds) (defBody KB.sNeeds) (defScope KB.sNeeds) .none kV12 dc12 pm12 an12 cd12 ct12), sl12⟩)
    (c12 : PySem.W.codeIn K cd12 "needs" = true)
    (k12 : PySem.W.keepIn K (.ref f12) = true)
    (a13 : PySem.W.nsIn K mainGlobals "ring_from" = some (some (.ref f13)))
    (l13 : K.lookup f13 = some ⟨oc13, od13, .func (PySem.W.fnOf "ring_from" "ring_from" (defArgs KB.sRing) (defBody KB.sRing) (defScope KB.sRing) .none kV13 dc13 pm13 an13 cd13 ct13), sl13⟩)
    (c13 : PySem.W.codeIn K cd13 "ring_from" = true)
    (k13 : PySem.W.keepIn K (.ref f13) = true)
    (a14 : PySem.W.findIn K (.ref cKin) "__init__" = some (some (.ref f14)))
    (i14 : PySem.W.isFn K (.ref f14) = true)
    (l14 : K.lookup f14 = some ⟨oc14, od14, .func (PySem.W.fnOf "__init__" "Kin.__init__" (defArgs KB.sInit) (defBody KB.sInit) (defScope KB.sInit) .none kV14 dc14 pm14 an14 cd14 ct14), sl14⟩)
    (c14 : PySem.W.codeIn K cd14 "Kin.__init__" = true)
    (k14 : PySem.W.keepIn K (.ref f14) = true)
    (a15 : PySem.W.nsIn K mainGlobals "first_ring" = some (some (.ref f15)))
    (l15 : K.lookup f15 = some ⟨oc15, od15, .func (PySem.W.fnOf "first_ring" "first_ring" (defArgs KB.sFirstR) (defBody KB.sFirstR) (defScope KB.sFirstR) .none kV15 dc15 pm15 an15 cd15 ct15), sl15⟩)
    (c15 : PySem.W.codeIn K cd15 "first_ring" = true)
    (k15 : PySem.W.keepIn K (.ref f15) = true)
    (a16 : PySem.W.nsIn K mainGlobals "bar" = some (some (.ref f16)))
    (l16 : K.lookup f16 = some ⟨oc16, od16, .func (PySem.W.fnOf "bar" "bar" (defArgs KB.sBar) (defBody KB.sBar) (defScope KB.sBar) .none kV16 dc16 pm16 an16 cd16 ct16), sl16⟩)
    (c16 : PySem.W.codeIn K cd16 "bar" = true)
    (k16 : PySem.W.keepIn K (.ref f16) = true)
    (a17 : PySem.W.nsIn K mainGlobals "_law_take" = some (some (.ref f17)))
    (l17 : K.lookup f17 = some ⟨oc17, od17, .func (PySem.W.fnOf "_law_take" "_law_take" (defArgs KB.sTake) (defBody KB.sTake) (defScope KB.sTake) .none kV17 dc17 pm17 an17 cd17 ct17), sl17⟩)
    (c17 : PySem.W.codeIn K cd17 "_law_take" = true)
    (k17 : PySem.W.keepIn K (.ref f17) = true)
    (a18 : PySem.W.nsIn K mainGlobals "_law_pick" = some (some (.ref f18)))
    (l18 : K.lookup f18 = some ⟨oc18, od18, .func (PySem.W.fnOf "_law_pick" "_law_pick" (defArgs KB.sPick) (defBody KB.sPick) (defScope KB.sPick) .none kV18 dc18 pm18 an18 cd18 ct18), sl18⟩)
    (c18 : PySem.W.codeIn K cd18 "_law_pick" = true)
    (k18 : PySem.W.keepIn K (.ref f18) = true)
    (a19 : PySem.W.nsIn K mainGlobals "_law_box" = some (some (.ref f19)))
    (l19 : K.lookup f19 = some ⟨oc19, od19, .func (PySem.W.fnOf "_law_box" "_law_box" (defArgs KB.sBox) (defBody KB.sBox) (defScope KB.sBox) .none kV19 dc19 pm19 an19 cd19 ct19), sl19⟩)
    (c19 : PySem.W.codeIn K cd19 "_law_box" = true)
    (k19 : PySem.W.keepIn K (.ref f19) = true)
    (a20 : PySem.W.nsIn K mainGlobals "_law_names" = some (some (.ref f20)))
    (l20 : K.lookup f20 = some ⟨oc20, od20, .func (PySem.W.fnOf "_law_names" "_law_names" (defArgs KB.sNames) (defBody KB.sNames) (defScope KB.sNames) .none kV20 dc20 pm20 an20 cd20 ct20), sl20⟩)
    (c20 : PySem.W.codeIn K cd20 "_law_names" = true)
    (k20 : PySem.W.keepIn K (.ref f20) = true)
    (a21 : PySem.W.nsIn K mainGlobals "_law_above" = some (some (.ref f21)))
    (l21 : K.lookup f21 = some ⟨oc21, od21, .func (PySem.W.fnOf "_law_above" "_law_above" (defArgs KB.sLAbove) (defBody KB.sLAbove) (defScope KB.sLAbove) .none kV21 dc21 pm21 an21 cd21 ct21), sl21⟩)
    (c21 : PySem.W.codeIn K cd21 "_law_above" = true)
    (k21 : PySem.W.keepIn K (.ref f21) = true)
    (a22 : PySem.W.nsIn K mainGlobals "_law_tops" = some (some (.ref f22)))
    (l22 : K.lookup f22 = some ⟨oc22, od22, .func (PySem.W.fnOf "_law_tops" "_law_tops" (defArgs KB.sLTops) (defBody KB.sLTops) (defScope KB.sLTops) .none kV22 dc22 pm22 an22 cd22 ct22), sl22⟩)
    (c22 : PySem.W.codeIn K cd22 "_law_tops" = true)
    (k22 : PySem.W.keepIn K (.ref f22) = true)
    (a23 : PySem.W.nsIn K mainGlobals "_law_split" = some (some (.ref f23)))
    (l23 : K.lookup f23 = some ⟨oc23, od23, .func (PySem.W.fnOf "_law_split" "_law_split" (defArgs KB.sSplit) (defBody KB.sSplit) (defScope KB.sSplit) .none kV23 dc23 pm23 an23 cd23 ct23), sl23⟩)
    (c23 : PySem.W.codeIn K cd23 "_law_split" = true)
    (k23 : PySem.W.keepIn K (.ref f23) = true)
    (a24 : PySem.W.nsIn K mainGlobals "_law_torn" = some (some (.ref f24)))
    (l24 : K.lookup f24 = some ⟨oc24, od24, .func (PySem.W.fnOf "_law_torn" "_law_torn" (defArgs KB.sTorn) (defBody KB.sTorn) (defScope KB.sTorn) .none kV24 dc24 pm24 an24 cd24 ct24), sl24⟩)
    (c24 : PySem.W.codeIn K cd24 "_law_torn" = true)
    (k24 : PySem.W.keepIn K (.ref f24) = true)
    (a25 : PySem.W.nsIn K mainGlobals "_law_needs" = some (some (.ref f25)))
    (l25 : K.lookup f25 = some ⟨oc25, od25, .func (PySem.W.fnOf "_law_needs" "_law_needs" (defArgs KB.sLNeeds) (defBody KB.sLNeeds) (defScope KB.sLNeeds) .none kV25 dc25 pm25 an25 cd25 ct25), sl25⟩)
    (c25 : PySem.W.codeIn K cd25 "_law_needs" = true)
    (k25 : PySem.W.keepIn K (.ref f25) = true)
    (a26 : PySem.W.nsIn K mainGlobals "_law_rings" = some (some (.ref f26)))
    (l26 : K.lookup f26 = some ⟨oc26, od26, .func (PySem.W.fnOf "_law_rings" "_law_rings" (defArgs KB.sRings) (defBody KB.sRings) (defScope KB.sRings) .none kV26 dc26 pm26 an26 cd26 ct26), sl26⟩)
    (c26 : PySem.W.codeIn K cd26 "_law_rings" = true)
    (k26 : PySem.W.keepIn K (.ref f26) = true)
    (a27 : PySem.W.nsIn K mainGlobals "_law_reasons" = some (some (.ref f27)))
    (l27 : K.lookup f27 = some ⟨oc27, od27, .func (PySem.W.fnOf "_law_reasons" "_law_reasons" (defArgs KB.sReasons) (defBody KB.sReasons) (defScope KB.sReasons) .none kV27 dc27 pm27 an27 cd27 ct27), sl27⟩)
    (c27 : PySem.W.codeIn K cd27 "_law_reasons" = true)
    (k27 : PySem.W.keepIn K (.ref f27) = true)
    (a28 : PySem.W.nsIn K mainGlobals "_law_session" = some (some (.ref f28)))
    (l28 : K.lookup f28 = some ⟨oc28, od28, .func (PySem.W.fnOf "_law_session" "_law_session" (defArgs KB.sSession) (defBody KB.sSession) (defScope KB.sSession) .none kV28 dc28 pm28 an28 cd28 ct28), sl28⟩)
    (c28 : PySem.W.codeIn K cd28 "_law_session" = true)
    (k28 : PySem.W.keepIn K (.ref f28) = true)
    (a29 : PySem.W.nsIn K mainGlobals "_law_group" = some (some (.ref f29)))
    (l29 : K.lookup f29 = some ⟨oc29, od29, .func (PySem.W.fnOf "_law_group" "_law_group" (defArgs KB.sGroup) (defBody KB.sGroup) (defScope KB.sGroup) .none kV29 dc29 pm29 an29 cd29 ct29), sl29⟩)
    (c29 : PySem.W.codeIn K cd29 "_law_group" = true)
    (k29 : PySem.W.keepIn K (.ref f29) = true)
    (a30 : PySem.W.nsIn K mainGlobals "_law_family" = some (some (.ref f30)))
    (l30 : K.lookup f30 = some ⟨oc30, od30, .func (PySem.W.fnOf "_law_family" "_law_family" (defArgs KB.sFamily) (defBody KB.sFamily) (defScope KB.sFamily) .none kV30 dc30 pm30 an30 cd30 ct30), sl30⟩)
    (c30 : PySem.W.codeIn K cd30 "_law_family" = true)
    (k30 : PySem.W.keepIn K (.ref f30) = true)
    (a31 : PySem.W.nsIn K mainGlobals "_law_image" = some (some (.ref f31)))
    (l31 : K.lookup f31 = some ⟨oc31, od31, .func (PySem.W.fnOf "_law_image" "_law_image" (defArgs KB.sImage) (defBody KB.sImage) (defScope KB.sImage) .none kV31 dc31 pm31 an31 cd31 ct31), sl31⟩)
    (c31 : PySem.W.codeIn K cd31 "_law_image" = true)
    (k31 : PySem.W.keepIn K (.ref f31) = true)
    (a32 : PySem.W.nsIn K mainGlobals "_law_same" = some (some (.ref f32)))
    (l32 : K.lookup f32 = some ⟨oc32, od32, .func (PySem.W.fnOf "_law_same" "_law_same" (defArgs KB.sSame) (defBody KB.sSame) (defScope KB.sSame) .none kV32 dc32 pm32 an32 cd32 ct32), sl32⟩)
    (c32 : PySem.W.codeIn K cd32 "_law_same" = true)
    (k32 : PySem.W.keepIn K (.ref f32) = true)
    (a33 : PySem.W.nsIn K mainGlobals "_law_lists" = some (some (.ref f33)))
    (l33 : K.lookup f33 = some ⟨oc33, od33, .func (PySem.W.fnOf "_law_lists" "_law_lists" (defArgs KB.sLists) (defBody KB.sLists) (defScope KB.sLists) .none kV33 dc33 pm33 an33 cd33 ct33), sl33⟩)
    (c33 : PySem.W.codeIn K cd33 "_law_lists" = true)
    (k33 : PySem.W.keepIn K (.ref f33) = true)
    (a34 : PySem.W.nsIn K mainGlobals "is_lost" = some (some (.ref f34)))
    (l34 : K.lookup f34 = some ⟨oc34, od34, .func (PySem.W.fnOf "is_lost" "is_lost" (defArgs KB.sIsLost) (defBody KB.sIsLost) (defScope KB.sIsLost) .none kV34 dc34 pm34 an34 cd34 ct34), sl34⟩)
    (c34 : PySem.W.codeIn K cd34 "is_lost" = true)
    (k34 : PySem.W.keepIn K (.ref f34) = true)
    (a35 : PySem.W.nsIn K mainGlobals "has_ended" = some (some (.ref f35)))
    (l35 : K.lookup f35 = some ⟨oc35, od35, .func (PySem.W.fnOf "has_ended" "has_ended" (defArgs KB.sEnded) (defBody KB.sEnded) (defScope KB.sEnded) .none kV35 dc35 pm35 an35 cd35 ct35), sl35⟩)
    (c35 : PySem.W.codeIn K cd35 "has_ended" = true)
    (k35 : PySem.W.keepIn K (.ref f35) = true)
    (a36 : PySem.W.nsIn K mainGlobals "lost_sessions" = some (some (.ref f36)))
    (l36 : K.lookup f36 = some ⟨oc36, od36, .func (PySem.W.fnOf "lost_sessions" "lost_sessions" (defArgs KB.sLost) (defBody KB.sLost) (defScope KB.sLost) .none kV36 dc36 pm36 an36 cd36 ct36), sl36⟩)
    (c36 : PySem.W.codeIn K cd36 "lost_sessions" = true)
    (k36 : PySem.W.keepIn K (.ref f36) = true)
    (a37 : PySem.W.nsIn K mainGlobals "helper_groups" = some (some (.ref f37)))
    (l37 : K.lookup f37 = some ⟨oc37, od37, .func (PySem.W.fnOf "helper_groups" "helper_groups" (defArgs KB.sEmpties) (defBody KB.sEmpties) (defScope KB.sEmpties) .none kV37 dc37 pm37 an37 cd37 ct37), sl37⟩)
    (c37 : PySem.W.codeIn K cd37 "helper_groups" = true)
    (k37 : PySem.W.keepIn K (.ref f37) = true)
    (a38 : PySem.W.nsIn K mainGlobals "helper_groups_in" = some (some (.ref f38)))
    (l38 : K.lookup f38 = some ⟨oc38, od38, .func (PySem.W.fnOf "helper_groups_in" "helper_groups_in" (defArgs KB.sEmptiesIn) (defBody KB.sEmptiesIn) (defScope KB.sEmptiesIn) .none kV38 dc38 pm38 an38 cd38 ct38), sl38⟩)
    (c38 : PySem.W.codeIn K cd38 "helper_groups_in" = true)
    (k38 : PySem.W.keepIn K (.ref f38) = true)
    (a39 : PySem.W.nsIn K mainGlobals "can_bear" = some (some (.ref f39)))
    (l39 : K.lookup f39 = some ⟨oc39, od39, .func (PySem.W.fnOf "can_bear" "can_bear" (defArgs KB.sBear) (defBody KB.sBear) (defScope KB.sBear) .none kV39 dc39 pm39 an39 cd39 ct39), sl39⟩)
    (c39 : PySem.W.codeIn K cd39 "can_bear" = true)
    (k39 : PySem.W.keepIn K (.ref f39) = true)
    (a40 : PySem.W.nsIn K mainGlobals "bearer" = some (some (.ref f40)))
    (l40 : K.lookup f40 = some ⟨oc40, od40, .func (PySem.W.fnOf "bearer" "bearer" (defArgs KB.sBearer) (defBody KB.sBearer) (defScope KB.sBearer) .none kV40 dc40 pm40 an40 cd40 ct40), sl40⟩)
    (c40 : PySem.W.codeIn K cd40 "bearer" = true)
    (k40 : PySem.W.keepIn K (.ref f40) = true)
    (a41 : PySem.W.nsIn K mainGlobals "further_sessions" = some (some (.ref f41)))
    (l41 : K.lookup f41 = some ⟨oc41, od41, .func (PySem.W.fnOf "further_sessions" "further_sessions" (defArgs KB.sFurther) (defBody KB.sFurther) (defScope KB.sFurther) .none kV41 dc41 pm41 an41 cd41 ct41), sl41⟩)
    (c41 : PySem.W.codeIn K cd41 "further_sessions" = true)
    (k41 : PySem.W.keepIn K (.ref f41) = true)
    (a42 : PySem.W.nsIn K mainGlobals "helpers" = some (some (.ref f42)))
    (l42 : K.lookup f42 = some ⟨oc42, od42, .func (PySem.W.fnOf "helpers" "helpers" (defArgs KB.sHelpers) (defBody KB.sHelpers) (defScope KB.sHelpers) .none kV42 dc42 pm42 an42 cd42 ct42), sl42⟩)
    (c42 : PySem.W.codeIn K cd42 "helpers" = true)
    (k42 : PySem.W.keepIn K (.ref f42) = true)
    (a43 : PySem.W.nsIn K mainGlobals "_law_bears" = some (some (.ref f43)))
    (l43 : K.lookup f43 = some ⟨oc43, od43, .func (PySem.W.fnOf "_law_bears" "_law_bears" (defArgs KB.sLBears) (defBody KB.sLBears) (defScope KB.sLBears) .none kV43 dc43 pm43 an43 cd43 ct43), sl43⟩)
    (c43 : PySem.W.codeIn K cd43 "_law_bears" = true)
    (k43 : PySem.W.keepIn K (.ref f43) = true)
    (a44 : PySem.W.nsIn K mainGlobals "_law_needed" = some (some (.ref f44)))
    (l44 : K.lookup f44 = some ⟨oc44, od44, .func (PySem.W.fnOf "_law_needed" "_law_needed" (defArgs KB.sNeeded) (defBody KB.sNeeded) (defScope KB.sNeeded) .none kV44 dc44 pm44 an44 cd44 ct44), sl44⟩)
    (c44 : PySem.W.codeIn K cd44 "_law_needed" = true)
    (k44 : PySem.W.keepIn K (.ref f44) = true)
    (a45 : PySem.W.nsIn K mainGlobals "_law_right" = some (some (.ref f45)))
    (l45 : K.lookup f45 = some ⟨oc45, od45, .func (PySem.W.fnOf "_law_right" "_law_right" (defArgs KB.sRight) (defBody KB.sRight) (defScope KB.sRight) .none kV45 dc45 pm45 an45 cd45 ct45), sl45⟩)
    (c45 : PySem.W.codeIn K cd45 "_law_right" = true)
    (k45 : PySem.W.keepIn K (.ref f45) = true)
    (a46 : PySem.W.nsIn K mainGlobals "law" = some (some (.ref f46)))
    (l46 : K.lookup f46 = some ⟨oc46, od46, .func (PySem.W.fnOf "law" "law" (defArgs KB.sLaw) (defBody KB.sLaw) (defScope KB.sLaw) .none kV46 dc46 pm46 an46 cd46 ct46), sl46⟩)
    (c46 : PySem.W.codeIn K cd46 "law" = true)
    (k46 : PySem.W.keepIn K (.ref f46) = true)
    (z0 : PySem.W.nsIn K mainGlobals "sorted" = some none)
    (z1 : PySem.W.nsIn K mainGlobals "set" = some none)
    (z2 : PySem.W.nsIn K mainGlobals "len" = some none)
    (z3 : PySem.W.nsIn K mainGlobals "min" = some none)
    (z4 : PySem.W.nsIn K mainGlobals "abs" = some none)
    (z5 : PySem.W.nsIn K mainGlobals "int" = some none)
    (z6 : PySem.W.nsIn K mainGlobals "list" = some none)
    (z7 : PySem.W.nsIn K mainGlobals "range" = some none)
    (z8 : PySem.W.nsIn K mainGlobals "all" = some none)
    (z9 : PySem.W.nsIn K mainGlobals "tuple" = some none)
    (z10 : PySem.W.nsIn K mainGlobals "isinstance" = some none)
    (z11 : PySem.W.nsIn K mainGlobals "zip" = some none)
    (z12 : PySem.W.nsIn K mainGlobals "bool" = some none)
    (z13 : PySem.W.nsIn K mainGlobals "str" = some none)
    (xFIRST : PySem.W.nsIn K mainGlobals "FIRST" = some (some (.int 1 tFIRST)))
    (pgKin : PySem.W.plainGet K cKin Str.empty = true)
    (hdKin : PySem.W.hasDictIn K cKin = true)
    (poKin : PySem.W.plainOver K cKin = true)
    (saKin : PySem.W.findIn K (.ref cKin) "__setattr__" = some (some (.builtin "object.__setattr__")))
    (mkKin : PySem.W.makesIn K cKin = true)
    (kpKin : PySem.W.keepIn K (.ref cKin) = true)
    (nKin_rows : PySem.W.findIn K (.ref cKin) "rows" = some none)
    (nKin_members : PySem.W.findIn K (.ref cKin) "members" = some none)
    (nKin_parents : PySem.W.findIn K (.ref cKin) "parents" = some none)
    (nKin_sessions : PySem.W.findIn K (.ref cKin) "sessions" = some none)
    (nKin_groups : PySem.W.findIn K (.ref cKin) "groups" = some none)
    (nKin_adopting : PySem.W.findIn K (.ref cKin) "adopting" = some none)
    (nKin_root : PySem.W.findIn K (.ref cKin) "root" = some none) :
    ∃ fd : FuncData, (∀ (s : Shared) (v : Value), BindsTo s fd ⟨[v], []⟩ [("_law_script", v)]) ∧ ∀ base : Heap, K.In base → base.Ns mainGlobals mg → FnOk l.prog w K mg base CX0 9 fa fd ["_law_script"] (KB.spLaw K) := by
  have e := hfa.symm.trans (PySem.W.mg_of X G a46)
  cases e
  have TKin : KB.KT K cKin := ⟨⟨pgKin, hdKin, poKin, saKin⟩, nKin_rows, nKin_members, nKin_parents, nKin_sessions, nKin_groups, nKin_adopting, nKin_root⟩
  have F0 := fun_mk (st := KB.sSessions) l0 c0 k0
  have b0 := F0.binds (ps := ["kin"]) fun _ _ _ _ _ _ us hl => match us, hl with | [_], _ => rfl
  have F1 := fun_mk (st := KB.sGroups) l1 c1 k1
  have b1 := F1.binds (ps := ["kin"]) fun _ _ _ _ _ _ us hl => match us, hl with | [_], _ => rfl
  have F2 := fun_mk (st := KB.sIsLed) l2 c2 k2
  have b2 := F2.binds (ps := ["kin", "session"]) fun _ _ _ _ _ _ us hl => match us, hl with | [_, _], _ => rfl
  have F3 := fun_mk (st := KB.sIsTop) l3 c3 k3
  have b3 := F3.binds (ps := ["kin", "number"]) fun _ _ _ _ _ _ us hl => match us, hl with | [_, _], _ => rfl
  have F4 := fun_mk (st := KB.sTops) l4 c4 k4
  have b4 := F4.binds (ps := ["kin", "session"]) fun _ _ _ _ _ _ us hl => match us, hl with | [_, _], _ => rfl
  have F5 := fun_mk (st := KB.sOthers) l5 c5 k5
  have b5 := F5.binds (ps := ["kin", "session"]) fun _ _ _ _ _ _ us hl => match us, hl with | [_, _], _ => rfl
  have F6 := fun_mk (st := KB.sAbove) l6 c6 k6
  have b6 := F6.binds (ps := ["kin", "number"]) fun _ _ _ _ _ _ us hl => match us, hl with | [_, _], _ => rfl
  have F7 := fun_mk (st := KB.sAdopter) l7 c7 k7
  have b7 := F7.binds (ps := ["kin", "number"]) fun _ _ _ _ _ _ us hl => match us, hl with | [_, _], _ => rfl
  have F8 := fun_mk (st := KB.sBarsS) l8 c8 k8
  have b8 := F8.binds (ps := ["kin", "session", "number"]) fun _ _ _ _ _ _ us hl => match us, hl with | [_, _, _], _ => rfl
  have F9 := fun_mk (st := KB.sBarsG) l9 c9 k9
  have b9 := F9.binds (ps := ["kin", "group"]) fun _ _ _ _ _ _ us hl => match us, hl with | [_, _], _ => rfl
  have F10 := fun_mk (st := KB.sFirstS) l10 c10 k10
  have b10 := F10.binds (ps := ["kin"]) fun _ _ _ _ _ _ us hl => match us, hl with | [_], _ => rfl
  have F11 := fun_mk (st := KB.sFirstG) l11 c11 k11
  have b11 := F11.binds (ps := ["kin"]) fun _ _ _ _ _ _ us hl => match us, hl with | [_], _ => rfl
  have F12 := fun_mk (st := KB.sNeeds) l12 c12 k12
  have b12 := F12.binds (ps := ["kin"]) fun _ _ _ _ _ _ us hl => match us, hl with | [_], _ => rfl
  have F13 := fun_mk (st := KB.sRing) l13 c13 k13
  have b13 := F13.binds (ps := ["needed", "number"]) fun _ _ _ _ _ _ us hl => match us, hl with | [_, _], _ => rfl
  have F14 := fun_mk (st := KB.sInit) l14 c14 k14
  have b14 := F14.binds (ps := ["self", "image"]) fun _ _ _ _ _ _ us hl => match us, hl with | [_, _], _ => rfl
  have F15 := fun_mk (st := KB.sFirstR) l15 c15 k15
  have b15 := F15.binds (ps := ["kin"]) fun _ _ _ _ _ _ us hl => match us, hl with | [_], _ => rfl
  have F16 := fun_mk (st := KB.sBar) l16 c16 k16
  have b16 := F16.binds (ps := ["image"]) fun _ _ _ _ _ _ us hl => match us, hl with | [_], _ => rfl
  have F17 := fun_mk (st := KB.sTake) l17 c17 k17
  have b17 := F17.binds (ps := ["_law_box_here", "_law_below"]) fun _ _ _ _ _ _ us hl => match us, hl with | [_, _], _ => rfl
  have F18 := fun_mk (st := KB.sPick) l18 c18 k18
  have b18 := F18.binds (ps := ["_law_box_here", "_law_some"]) fun _ _ _ _ _ _ us hl => match us, hl with | [_, _], _ => rfl
  have F19 := fun_mk (st := KB.sBox) l19 c19 k19
  have b19 := F19.binds (ps := ["_law_script", "_law_k"]) fun _ _ _ _ _ _ us hl => match us, hl with | [_, _], _ => rfl
  have F20 := fun_mk (st := KB.sNames) l20 c20 k20
  have b20 := F20.binds (ps := ["_law_box_here", "_law_most"]) fun _ _ _ _ _ _ us hl => match us, hl with | [_, _], _ => rfl
  have F21 := fun_mk (st := KB.sLAbove) l21 c21 k21
  have b21 := F21.binds (ps := ["_law_kin", "_law_n"]) fun _ _ _ _ _ _ us hl => match us, hl with | [_, _], _ => rfl
  have F22 := fun_mk (st := KB.sLTops) l22 c22 k22
  have b22 := F22.binds (ps := ["_law_kin", "_law_session_here"]) fun _ _ _ _ _ _ us hl => match us, hl with | [_, _], _ => rfl
  have F23 := fun_mk (st := KB.sSplit) l23 c23 k23
  have b23 := F23.binds (ps := ["_law_kin", "_law_group_here"]) fun _ _ _ _ _ _ us hl => match us, hl with | [_, _], _ => rfl
  have F24 := fun_mk (st := KB.sTorn) l24 c24 k24
  have b24 := F24.binds (ps := ["_law_kin", "_law_session_here"]) fun _ _ _ _ _ _ us hl => match us, hl with | [_, _], _ => rfl
  have F25 := fun_mk (st := KB.sLNeeds) l25 c25 k25
  have b25 := F25.binds (ps := ["_law_kin", "_law_n"]) fun _ _ _ _ _ _ us hl => match us, hl with | [_, _], _ => rfl
  have F26 := fun_mk (st := KB.sRings) l26 c26 k26
  have b26 := F26.binds (ps := ["_law_kin"]) fun _ _ _ _ _ _ us hl => match us, hl with | [_], _ => rfl
  have F27 := fun_mk (st := KB.sReasons) l27 c27 k27
  have b27 := F27.binds (ps := ["_law_kin"]) fun _ _ _ _ _ _ us hl => match us, hl with | [_], _ => rfl
  have F28 := fun_mk (st := KB.sSession) l28 c28 k28
  have b28 := F28.binds (ps := ["_law_box_here", "_law_kin", "_law_names_here", "_law_n", "_law_mode"]) fun _ _ _ _ _ _ us hl => match us, hl with | [_, _, _, _, _], _ => rfl
  have F29 := fun_mk (st := KB.sGroup) l29 c29 k29
  have b29 := F29.binds (ps := ["_law_box_here", "_law_kin", "_law_n", "_law_mode"]) fun _ _ _ _ _ _ us hl => match us, hl with | [_, _, _, _], _ => rfl
  have F30 := fun_mk (st := KB.sFamily) l30 c30 k30
  have b30 := F30.binds (ps := ["_law_box_here", "_law_mode", "_law_most"]) fun _ _ _ _ _ _ us hl => match us, hl with | [_, _, _], _ => rfl
  have F31 := fun_mk (st := KB.sImage) l31 c31 k31
  have b31 := F31.binds (ps := ["_law_kin"]) fun _ _ _ _ _ _ us hl => match us, hl with | [_], _ => rfl
  have F32 := fun_mk (st := KB.sSame) l32 c32 k32
  have b32 := F32.binds (ps := ["_law_found", "_law_due"]) fun _ _ _ _ _ _ us hl => match us, hl with | [_, _], _ => rfl
  have F33 := fun_mk (st := KB.sLists) l33 c33 k33
  have b33 := F33.binds (ps := ["_law_matter"]) fun _ _ _ _ _ _ us hl => match us, hl with | [_], _ => rfl
  have F34 := fun_mk (st := KB.sIsLost) l34 c34 k34
  have b34 := F34.binds (ps := ["kin", "session"]) fun _ _ _ _ _ _ us hl => match us, hl with | [_, _], _ => rfl
  have F35 := fun_mk (st := KB.sEnded) l35 c35 k35
  have b35 := F35.binds (ps := ["kin", "number"]) fun _ _ _ _ _ _ us hl => match us, hl with | [_, _], _ => rfl
  have F36 := fun_mk (st := KB.sLost) l36 c36 k36
  have b36 := F36.binds (ps := ["kin"]) fun _ _ _ _ _ _ us hl => match us, hl with | [_], _ => rfl
  have F37 := fun_mk (st := KB.sEmpties) l37 c37 k37
  have b37 := F37.binds (ps := ["kin"]) fun _ _ _ _ _ _ us hl => match us, hl with | [_], _ => rfl
  have F38 := fun_mk (st := KB.sEmptiesIn) l38 c38 k38
  have b38 := F38.binds (ps := ["kin", "session"]) fun _ _ _ _ _ _ us hl => match us, hl with | [_, _], _ => rfl
  have F39 := fun_mk (st := KB.sBear) l39 c39 k39
  have b39 := F39.binds (ps := ["kin", "number", "leader"]) fun _ _ _ _ _ _ us hl => match us, hl with | [_, _, _], _ => rfl
  have F40 := fun_mk (st := KB.sBearer) l40 c40 k40
  have b40 := F40.binds (ps := ["kin", "leader"]) fun _ _ _ _ _ _ us hl => match us, hl with | [_, _], _ => rfl
  have F41 := fun_mk (st := KB.sFurther) l41 c41 k41
  have b41 := F41.binds (ps := ["kin"]) fun _ _ _ _ _ _ us hl => match us, hl with | [_], _ => rfl
  have F42 := fun_mk (st := KB.sHelpers) l42 c42 k42
  have b42 := F42.binds (ps := ["image"]) fun _ _ _ _ _ _ us hl => match us, hl with | [_], _ => rfl
  have F43 := fun_mk (st := KB.sLBears) l43 c43 k43
  have b43 := F43.binds (ps := ["_law_kin", "_law_n", "_law_session_here"]) fun _ _ _ _ _ _ us hl => match us, hl with | [_, _, _], _ => rfl
  have F44 := fun_mk (st := KB.sNeeded) l44 c44 k44
  have b44 := F44.binds (ps := ["_law_kin"]) fun _ _ _ _ _ _ us hl => match us, hl with | [_], _ => rfl
  have F45 := fun_mk (st := KB.sRight) l45 c45 k45
  have b45 := F45.binds (ps := ["_law_box_here"]) fun _ _ _ _ _ _ us hl => match us, hl with | [_], _ => rfl
  have F46 := fun_mk (st := KB.sLaw) l46 c46 k46
  refine ⟨PySem.W.fnOf "law" "law" (defArgs KB.sLaw) (defBody KB.sLaw) (defScope KB.sLaw) .none kV46 dc46 pm46 an46 cd46 ct46, fun s v => .of_eq rfl, fun base _ _ => ?_⟩
  have g0 := KB.ok_sessions (P := l.prog) (w := w) (mg := mg) (base := base) F0 TKin (PySem.W.mg_none_of X G z0) (PySem.W.mg_none_of X G z1)
  have g1 := KB.ok_groups (P := l.prog) (w := w) (mg := mg) (base := base) F1 TKin (PySem.W.mg_none_of X G z0) (PySem.W.mg_none_of X G z1)
  have g2 := KB.ok_isled (P := l.prog) (w := w) (mg := mg) (base := base) F2 TKin
  have g3 := KB.ok_istop (P := l.prog) (w := w) (mg := mg) (base := base) F3 TKin
  have g4 := KB.ok_tops (P := l.prog) (w := w) (mg := mg) (base := base) F4 TKin g3 b3 k3 (PySem.W.mg_of X G a3)
  have g5 := KB.ok_others (P := l.prog) (w := w) (mg := mg) (base := base) F5 TKin g4 b4 k4 (PySem.W.mg_of X G a4)
  have g6 := KB.ok_above (P := l.prog) (w := w) (mg := mg) (base := base) F6 TKin (PySem.W.mg_of X G xFIRST)
  have g7 := KB.ok_adopter (P := l.prog) (w := w) (mg := mg) (base := base) F7 TKin g6 b6 k6 (PySem.W.mg_of X G a6)
  have g8 := KB.ok_barsS (P := l.prog) (w := w) (mg := mg) (base := base) F8 TKin (PySem.W.mg_of X G xFIRST) g2 b2 k2 (PySem.W.mg_of X G a2) g4 b4 k4 (PySem.W.mg_of X G a4) g7 b7 k7 (PySem.W.mg_of X G a7)
  have g9 := KB.ok_barsG (P := l.prog) (w := w) (mg := mg) (base := base) F9 TKin (PySem.W.mg_of X G xFIRST) (PySem.W.mg_none_of X G z0) (PySem.W.mg_none_of X G z1) (PySem.W.mg_none_of X G z2) g0 b0 k0 (PySem.W.mg_of X G a0)
  have g10 := KB.ok_firstS (P := l.prog) (w := w) (mg := mg) (base := base) F10 TKin g0 b0 k0 (PySem.W.mg_of X G a0) g8 b8 k8 (PySem.W.mg_of X G a8)
  have g11 := KB.ok_firstG (P := l.prog) (w := w) (mg := mg) (base := base) F11 TKin g1 b1 k1 (PySem.W.mg_of X G a1) g9 b9 k9 (PySem.W.mg_of X G a9)
  have g12 := KB.ok_needs (P := l.prog) (w := w) (mg := mg) (base := base) F12 TKin g0 b0 k0 (PySem.W.mg_of X G a0) g2 b2 k2 (PySem.W.mg_of X G a2) g6 b6 k6 (PySem.W.mg_of X G a6) g5 b5 k5 (PySem.W.mg_of X G a5)
  have g13 := KB.ok_ring (P := l.prog) (w := w) (mg := mg) (base := base) F13 (PySem.W.mg_none_of X G z3)
  have g14 := KB.ok_init (P := l.prog) (w := w) (mg := mg) (base := base) F14 TKin (PySem.W.mg_of X G xFIRST)
  have g15 := KB.ok_firstR (P := l.prog) (w := w) (mg := mg) (base := base) F15 TKin g12 b12 k12 (PySem.W.mg_of X G a12) g13 b13 k13 (PySem.W.mg_of X G a13)
  have g16 := KB.ok_bar (P := l.prog) (w := w) (mg := mg) (base := base) F16 ⟨mkKin, a14, i14, kpKin⟩ (PySem.W.mg_of X G gKin) g14 b14 g10 b10 k10 (PySem.W.mg_of X G a10) g11 b11 k11 (PySem.W.mg_of X G a11) g15 b15 k15 (PySem.W.mg_of X G a15)
  have g17 := KB.ok_take (P := l.prog) (w := w) (mg := mg) (base := base) F17
  have g18 := KB.ok_pick (P := l.prog) (w := w) (mg := mg) (base := base) F18 g17 b17 k17 (PySem.W.mg_of X G a17) (PySem.W.mg_none_of X G z2)
  have g19 := KB.ok_box (P := l.prog) (w := w) (mg := mg) (base := base) F19 (PySem.W.mg_none_of X G z2) (PySem.W.mg_none_of X G z4) (PySem.W.mg_none_of X G z5)
  have g20 := KB.ok_names (P := l.prog) (w := w) (mg := mg) (base := base) F20 g17 b17 k17 (PySem.W.mg_of X G a17) (PySem.W.mg_none_of X G z2) (PySem.W.mg_none_of X G z6) (PySem.W.mg_none_of X G z7)
  have g21 := KB.ok_labove (P := l.prog) (w := w) (mg := mg) (base := base) F21
  have g22 := KB.ok_ltops (P := l.prog) (w := w) (mg := mg) (base := base) F22 (PySem.W.mg_none_of X G z0)
  have g23 := KB.ok_split (P := l.prog) (w := w) (mg := mg) (base := base) F23 (PySem.W.mg_none_of X G z0) (PySem.W.mg_none_of X G z1) (PySem.W.mg_none_of X G z2)
  have g24 := KB.ok_torn (P := l.prog) (w := w) (mg := mg) (base := base) F24 (PySem.W.mg_none_of X G z0) (PySem.W.mg_none_of X G z5) g22 b22 k22 (PySem.W.mg_of X G a22) g21 b21 k21 (PySem.W.mg_of X G a21)
  have g25 := KB.ok_lneeds (P := l.prog) (w := w) (mg := mg) (base := base) F25 g22 b22 k22 (PySem.W.mg_of X G a22)
  have g26 := KB.ok_rings (P := l.prog) (w := w) (mg := mg) (base := base) F26 (PySem.W.mg_none_of X G z0) (PySem.W.mg_none_of X G z3) g25 b25 k25 (PySem.W.mg_of X G a25)
  have g27 := KB.ok_reasons (P := l.prog) (w := w) (mg := mg) (base := base) F27 (PySem.W.mg_none_of X G z0) (PySem.W.mg_none_of X G z1) g24 b24 k24 (PySem.W.mg_of X G a24) g23 b23 k23 (PySem.W.mg_of X G a23) g26 b26 k26 (PySem.W.mg_of X G a26)
  have g28 := KB.ok_session (P := l.prog) (w := w) (mg := mg) (base := base) F28 (PySem.W.mg_none_of X G z0) (PySem.W.mg_none_of X G z8) g17 b17 k17 (PySem.W.mg_of X G a17) g18 b18 k18 (PySem.W.mg_of X G a18) g21 b21 k21 (PySem.W.mg_of X G a21) g22 b22 k22 (PySem.W.mg_of X G a22)
  have g29 := KB.ok_group (P := l.prog) (w := w) (mg := mg) (base := base) F29 (PySem.W.mg_none_of X G z0) g17 b17 k17 (PySem.W.mg_of X G a17) g18 b18 k18 (PySem.W.mg_of X G a18)
  have g30 := KB.ok_family (P := l.prog) (w := w) (mg := mg) (base := base) F30 (PySem.W.mg_none_of X G z0) g20 b20 k20 (PySem.W.mg_of X G a20) g17 b17 k17 (PySem.W.mg_of X G a17) g18 b18 k18 (PySem.W.mg_of X G a18) g28 b28 k28 (PySem.W.mg_of X G a28) g29 b29 k29 (PySem.W.mg_of X G a29)
  have g31 := KB.ok_image (P := l.prog) (w := w) (mg := mg) (base := base) F31 (PySem.W.mg_none_of X G z0) (PySem.W.mg_none_of X G z9)
  have g32_1 := KB.ok_same (P := l.prog) (w := w) (mg := mg) (base := base) F32 KB.no_same b32 (PySem.W.mg_of X G a32) (PySem.W.mg_none_of X G z10) (PySem.W.mg_none_of X G z6) (PySem.W.mg_none_of X G z9) (PySem.W.mg_none_of X G z2) (PySem.W.mg_none_of X G z8) (PySem.W.mg_none_of X G z11) (PySem.W.mg_none_of X G z12) (PySem.W.mg_none_of X G z13) (PySem.W.mg_none_of X G z5)
  have g32_2 := KB.ok_same (P := l.prog) (w := w) (mg := mg) (base := base) F32 g32_1 b32 (PySem.W.mg_of X G a32) (PySem.W.mg_none_of X G z10) (PySem.W.mg_none_of X G z6) (PySem.W.mg_none_of X G z9) (PySem.W.mg_none_of X G z2) (PySem.W.mg_none_of X G z8) (PySem.W.mg_none_of X G z11) (PySem.W.mg_none_of X G z12) (PySem.W.mg_none_of X G z13) (PySem.W.mg_none_of X G z5)
  have g32_3 := KB.ok_same (P := l.prog) (w := w) (mg := mg) (base := base) F32 g32_2 b32 (PySem.W.mg_of X G a32) (PySem.W.mg_none_of X G z10) (PySem.W.mg_none_of X G z6) (PySem.W.mg_none_of X G z9) (PySem.W.mg_none_of X G z2) (PySem.W.mg_none_of X G z8) (PySem.W.mg_none_of X G z11) (PySem.W.mg_none_of X G z12) (PySem.W.mg_none_of X G z13) (PySem.W.mg_none_of X G z5)
  have g32_4 := KB.ok_same (P := l.prog) (w := w) (mg := mg) (base := base) F32 g32_3 b32 (PySem.W.mg_of X G a32) (PySem.W.mg_none_of X G z10) (PySem.W.mg_none_of X G z6) (PySem.W.mg_none_of X G z9) (PySem.W.mg_none_of X G z2) (PySem.W.mg_none_of X G z8) (PySem.W.mg_none_of X G z11) (PySem.W.mg_none_of X G z12) (PySem.W.mg_none_of X G z13) (PySem.W.mg_none_of X G z5)
  have g32 := KB.ok_same (P := l.prog) (w := w) (mg := mg) (base := base) F32 g32_4 b32 (PySem.W.mg_of X G a32) (PySem.W.mg_none_of X G z10) (PySem.W.mg_none_of X G z6) (PySem.W.mg_none_of X G z9) (PySem.W.mg_none_of X G z2) (PySem.W.mg_none_of X G z8) (PySem.W.mg_none_of X G z11) (PySem.W.mg_none_of X G z12) (PySem.W.mg_none_of X G z13) (PySem.W.mg_none_of X G z5)
  have g33_1 := KB.ok_lists (P := l.prog) (w := w) (mg := mg) (base := base) F33 KB.no_lists b33 (PySem.W.mg_of X G a33) (PySem.W.mg_none_of X G z10) (PySem.W.mg_none_of X G z6) (PySem.W.mg_none_of X G z9)
  have g33_2 := KB.ok_lists (P := l.prog) (w := w) (mg := mg) (base := base) F33 g33_1 b33 (PySem.W.mg_of X G a33) (PySem.W.mg_none_of X G z10) (PySem.W.mg_none_of X G z6) (PySem.W.mg_none_of X G z9)
  have g33_3 := KB.ok_lists (P := l.prog) (w := w) (mg := mg) (base := base) F33 g33_2 b33 (PySem.W.mg_of X G a33) (PySem.W.mg_none_of X G z10) (PySem.W.mg_none_of X G z6) (PySem.W.mg_none_of X G z9)
  have g33_4 := KB.ok_lists (P := l.prog) (w := w) (mg := mg) (base := base) F33 g33_3 b33 (PySem.W.mg_of X G a33) (PySem.W.mg_none_of X G z10) (PySem.W.mg_none_of X G z6) (PySem.W.mg_none_of X G z9)
  have g33 := KB.ok_lists (P := l.prog) (w := w) (mg := mg) (base := base) F33 g33_4 b33 (PySem.W.mg_of X G a33) (PySem.W.mg_none_of X G z10) (PySem.W.mg_none_of X G z6) (PySem.W.mg_none_of X G z9)
  have g34 := KB.ok_isLost (P := l.prog) (w := w) (mg := mg) (base := base) F34 TKin (PySem.W.mg_of X G xFIRST) ⟨⟨_, _, _, by decide, g2, b2, k2, PySem.W.mg_of X G a2⟩⟩
  have g35 := KB.ok_ended (P := l.prog) (w := w) (mg := mg) (base := base) F35 TKin
  have g36 := KB.ok_lost (P := l.prog) (w := w) (mg := mg) (base := base) F36 TKin ⟨⟨_, _, _, by decide, g0, b0, k0, PySem.W.mg_of X G a0⟩⟩ ⟨⟨_, _, _, by decide, g34, b34, k34, PySem.W.mg_of X G a34⟩⟩
  have g37 := KB.ok_empties (P := l.prog) (w := w) (mg := mg) (base := base) F37 TKin (PySem.W.mg_of X G xFIRST) ⟨⟨_, _, _, by decide, g1, b1, k1, PySem.W.mg_of X G a1⟩⟩ ⟨⟨_, _, _, by decide, g36, b36, k36, PySem.W.mg_of X G a36⟩⟩
  have g38 := KB.ok_emptiesIn (P := l.prog) (w := w) (mg := mg) (base := base) F38 TKin ⟨⟨_, _, _, by decide, g37, b37, k37, PySem.W.mg_of X G a37⟩⟩
  have g39 := KB.ok_bear (P := l.prog) (w := w) (mg := mg) (base := base) F39 TKin ⟨⟨_, _, _, by decide, g35, b35, k35, PySem.W.mg_of X G a35⟩⟩ ⟨⟨_, _, _, by decide, g6, b6, k6, PySem.W.mg_of X G a6⟩⟩ (PySem.W.mg_none_of X G z8)
  have g40 := KB.ok_bearer (P := l.prog) (w := w) (mg := mg) (base := base) F40 TKin ⟨⟨_, _, _, by decide, g39, b39, k39, PySem.W.mg_of X G a39⟩⟩ (PySem.W.mg_none_of X G z3)
  have g41 := KB.ok_further (P := l.prog) (w := w) (mg := mg) (base := base) F41 TKin ⟨⟨_, _, _, by decide, g0, b0, k0, PySem.W.mg_of X G a0⟩⟩ ⟨⟨_, _, _, by decide, g2, b2, k2, PySem.W.mg_of X G a2⟩⟩ ⟨⟨_, _, _, by decide, g5, b5, k5, PySem.W.mg_of X G a5⟩⟩ ⟨⟨_, _, _, by decide, g38, b38, k38, PySem.W.mg_of X G a38⟩⟩ ⟨⟨_, _, _, by decide, g40, b40, k40, PySem.W.mg_of X G a40⟩⟩
  have g42 := KB.ok_helpers (P := l.prog) (w := w) (mg := mg) (base := base) F42 ⟨⟨_, _, _, by decide, g14, b14, ⟨mkKin, a14, i14, kpKin⟩, PySem.W.mg_of X G gKin⟩⟩ ⟨⟨_, _, _, by decide, g36, b36, k36, PySem.W.mg_of X G a36⟩⟩ ⟨⟨_, _, _, by decide, g37, b37, k37, PySem.W.mg_of X G a37⟩⟩ ⟨⟨_, _, _, by decide, g41, b41, k41, PySem.W.mg_of X G a41⟩⟩
  have g43 := KB.ok_lbears (P := l.prog) (w := w) (mg := mg) (base := base) F43
  have g44 := KB.ok_needed (P := l.prog) (w := w) (mg := mg) (base := base) F44 ⟨⟨_, _, _, by decide, g22, b22, k22, PySem.W.mg_of X G a22⟩⟩ ⟨⟨_, _, _, by decide, g43, b43, k43, PySem.W.mg_of X G a43⟩⟩ (PySem.W.mg_none_of X G z0) (PySem.W.mg_none_of X G z1) (PySem.W.mg_none_of X G z5)
  have g45 := KB.ok_right (P := l.prog) (w := w) (mg := mg) (base := base) F45 ⟨⟨_, _, _, by decide, g30, b30, k30, PySem.W.mg_of X G a30⟩⟩ ⟨⟨_, _, _, by decide, g31, b31, k31, PySem.W.mg_of X G a31⟩⟩ ⟨⟨_, _, _, by decide, g27, b27, k27, PySem.W.mg_of X G a27⟩⟩ ⟨⟨_, _, _, by decide, g44, b44, k44, PySem.W.mg_of X G a44⟩⟩ ⟨⟨_, _, _, by decide, g42, b42, k42, PySem.W.mg_of X G a42⟩⟩ ⟨⟨_, _, _, by decide, g42, k42, PySem.W.mg_of X G a42, fun s v => .of_eq rfl⟩⟩ ⟨⟨_, _, _, by decide, g33, b33, k33, PySem.W.mg_of X G a33⟩⟩ ⟨⟨_, _, _, by decide, g32, b32, k32, PySem.W.mg_of X G a32⟩⟩ ⟨⟨_, _, _, by decide, g16, b16, k16, PySem.W.mg_of X G a16⟩⟩ (PySem.W.mg_none_of X G z7)
  exact KB.ok_law F46 ⟨⟨_, _, _, by decide, g19, b19, k19, PySem.W.mg_of X G a19⟩⟩ ⟨⟨_, _, _, by decide, g45, b45, k45, PySem.W.mg_of X G a45⟩⟩ (PySem.W.mg_none_of X G z7) (PySem.W.mg_none_of X G z2) (PySem.W.mg_none_of X G z8) (PySem.W.mg_none_of X G z3)
end KY
set_option Elab.async false
set_option linter.all false
set_option maxRecDepth 100000
open PySem PySem.W PyProof.Rows
set_option maxHeartbeats 0 in
theorem PySem.Challenge.cw_treethaw_k32_helpers_counted_holds : PySem.Challenge.rw_treethaw_k32_helpers_counted.Holds := by
  w_on; o_law; k_head; (case hw => w_witness2)
  k_fill
  refine L2.walk_of (l := PySem.Challenge.rw_treethaw_k32_helpers_counted) (n := 63) (k := 9) (x := "_law_script") (CX := fun _ => L2.CX0) (sp := fun w => KB.spLaw _) rfl (by decide) rfl ⟨rfl, by decide, by decide⟩ (fun w h Y => PySem.W.kIn_of Y) ?F (fun _ _ a ns hl _ hS => ⟨a, ns, rfl, hS, hl, fun _ => rfl⟩) (fun _ _ _ _ _ h => h)
  case F =>
    intro w mg fa h KX G hmg
    refine' KY.all_mk KX G hmg ?gKin ?a0 ?l0 ?c0 ?k0 ?a1 ?l1 ?c1 ?k1 ?a2 ?l2 ?c2 ?k2 ?a3 ?l3 ?c3 ?k3 ?a4 ?l4 ?c4 ?k4 ?a5 ?l5 ?c5 ?k5 ?a6 ?l6 ?c6 ?k6 ?a7 ?l7 ?c7 ?k7 ?a8 ?l8 ?c8 ?k8 ?a9 ?l9 ?c9 ?k9 ?a10 ?l10 ?c10 ?k10 ?a11 ?l11 ?c11 ?k11 ?a12 ?l12 ?c12 ?k12 ?a13 ?l13 ?c13 ?k13 ?a14 ?i14 ?l14 ?c14 ?k14 ?a15 ?l15 ?c15 ?k15 ?a16 ?l16 ?c16 ?k16 ?a17 ?l17 ?c17 ?k17 ?a18 ?l18 ?c18 ?k18 ?a19 ?l19 ?c19 ?k19 ?a20 ?l20 ?c20 ?k20 ?a21 ?l21 ?c21 ?k21 ?a22 ?l22 ?c22 ?k22 ?a23 ?l23 ?c23 ?k23 ?a24 ?l24 ?c24 ?k24 ?a25 ?l25 ?c25 ?k25 ?a26 ?l26 ?c26 ?k26 ?a27 ?l27 ?c27 ?k27 ?a28 ?l28 ?c28 ?k28 ?a29 ?l29 ?c29 ?k29 ?a30 ?l30 ?c30 ?k30 ?a31 ?l31 ?c31 ?k31 ?a32 ?l32 ?c32 ?k32 ?a33 ?l33 ?c33 ?k33 ?a34 ?l34 ?c34 ?k34 ?a35 ?l35 ?c35 ?k35 ?a36 ?l36 ?c36 ?k36 ?a37 ?l37 ?c37 ?k37 ?a38 ?l38 ?c38 ?k38 ?a39 ?l39 ?c39 ?k39 ?a40 ?l40 ?c40 ?k40 ?a41 ?l41 ?c41 ?k41 ?a42 ?l42 ?c42 ?k42 ?a43 ?l43 ?c43 ?k43 ?a44 ?l44 ?c44 ?k44 ?a45 ?l45 ?c45 ?k45 ?a46 ?l46 ?c46 ?k46 ?z0 ?z1 ?z2 ?z3 ?z4 ?z5 ?z6 ?z7 ?z8 ?z9 ?z10 ?z11 ?z12 ?z13 ?xFIRST ?pgKin ?hdKin ?poKin ?saKin ?mkKin ?kpKin ?nKin_rows ?nKin_members ?nKin_parents ?nKin_sessions ?nKin_groups ?nKin_adopting ?nKin_root
    (case gKin => k_is)
    (case a0 => k_is)
    (case l0 => k_is)
    (case c0 => k_is)
    (case k0 => k_is)
    (case a1 => k_is)
    (case l1 => k_is)
    (case c1 => k_is)
    (case k1 => k_is)
    (case a2 => k_is)
    (case l2 => k_is)
    (case c2 => k_is)
    (case k2 => k_is)
    (case a3 => k_is)
    (case l3 => k_is)
    (case c3 => k_is)
    (case k3 => k_is)
    (case a4 => k_is)
    (case l4 => k_is)
    (case c4 => k_is)
    (case k4 => k_is)
    (case a5 => k_is)
    (case l5 => k_is)
    (case c5 => k_is)
    (case k5 => k_is)
    (case a6 => k_is)
    (case l6 => k_is)
    (case c6 => k_is)
    (case k6 => k_is)
    (case a7 => k_is)
    (case l7 => k_is)
    (case c7 => k_is)
    (case k7 => k_is)
    (case a8 => k_is)
    (case l8 => k_is)
    (case c8 => k_is)
    (case k8 => k_is)
    (case a9 => k_is)
    (case l9 => k_is)
    (case c9 => k_is)
    (case k9 => k_is)
    (case a10 => k_is)
    (case l10 => k_is)
    (case c10 => k_is)
    (case k10 => k_is)
    (case a11 => k_is)
    (case l11 => k_is)
    (case c11 => k_is)
    (case k11 => k_is)
    (case a12 => k_is)
    (case l12 => k_is)
    (case c12 => k_is)
    (case k12 => k_is)
    (case a13 => k_is)
    (case l13 => k_is)
    (case c13 => k_is)
    (case k13 => k_is)
    (case a14 => k_is)
    (case i14 => k_is)
    (case l14 => k_is)
    (case c14 => k_is)
    (case k14 => k_is)
    (case a15 => k_is)
    (case l15 => k_is)
    (case c15 => k_is)
    (case k15 => k_is)
    (case a16 => k_is)
    (case l16 => k_is)
    (case c16 => k_is)
    (case k16 => k_is)
    (case a17 => k_is)
    (case l17 => k_is)
    (case c17 => k_is)
    (case k17 => k_is)
    (case a18 => k_is)
    (case l18 => k_is)
    (case c18 => k_is)
    (case k18 => k_is)
    (case a19 => k_is)
    (case l19 => k_is)
    (case c19 => k_is)
    (case k19 => k_is)
    (case a20 => k_is)
    (case l20 => k_is)
    (case c20 => k_is)
    (case k20 => k_is)
    (case a21 => k_is)
    (case l21 => k_is)
    (case c21 => k_is)
    (case k21 => k_is)
    (case a22 => k_is)
    (case l22 => k_is)
    (case c22 => k_is)
    (case k22 => k_is)
    (case a23 => k_is)
    (case l23 => k_is)
    (case c23 => k_is)
    (case k23 => k_is)
    (case a24 => k_is)
    (case l24 => k_is)
    (case c24 => k_is)
    (case k24 => k_is)
    (case a25 => k_is)
    (case l25 => k_is)
    (case c25 => k_is)
    (case k25 => k_is)
    (case a26 => k_is)
    (case l26 => k_is)
    (case c26 => k_is)
    (case k26 => k_is)
    (case a27 => k_is)
    (case l27 => k_is)
    (case c27 => k_is)
    (case k27 => k_is)
    (case a28 => k_is)
    (case l28 => k_is)
    (case c28 => k_is)
    (case k28 => k_is)
    (case a29 => k_is)
    (case l29 => k_is)
    (case c29 => k_is)
    (case k29 => k_is)
    (case a30 => k_is)
    (case l30 => k_is)
    (case c30 => k_is)
    (case k30 => k_is)
    (case a31 => k_is)
    (case l31 => k_is)
    (case c31 => k_is)
    (case k31 => k_is)
    (case a32 => k_is)
    (case l32 => k_is)
    (case c32 => k_is)
    (case k32 => k_is)
    (case a33 => k_is)
    (case l33 => k_is)
    (case c33 => k_is)
    (case k33 => k_is)
    (case a34 => k_is)
    (case l34 => k_is)
    (case c34 => k_is)
    (case k34 => k_is)
    (case a35 => k_is)
    (case l35 => k_is)
    (case c35 => k_is)
    (case k35 => k_is)
    (case a36 => k_is)
    (case l36 => k_is)
    (case c36 => k_is)
    (case k36 => k_is)
    (case a37 => k_is)
    (case l37 => k_is)
    (case c37 => k_is)
    (case k37 => k_is)
    (case a38 => k_is)
    (case l38 => k_is)
    (case c38 => k_is)
    (case k38 => k_is)
    (case a39 => k_is)
    (case l39 => k_is)
    (case c39 => k_is)
    (case k39 => k_is)
    (case a40 => k_is)
    (case l40 => k_is)
    (case c40 => k_is)
    (case k40 => k_is)
    (case a41 => k_is)
    (case l41 => k_is)
    (case c41 => k_is)
    (case k41 => k_is)
    (case a42 => k_is)
    (case l42 => k_is)
    (case c42 => k_is)
    (case k42 => k_is)
    (case a43 => k_is)
    (case l43 => k_is)
    (case c43 => k_is)
    (case k43 => k_is)
    (case a44 => k_is)
    (case l44 => k_is)
    (case c44 => k_is)
    (case k44 => k_is)
    (case a45 => k_is)
    (case l45 => k_is)
    (case c45 => k_is)
    (case k45 => k_is)
    (case a46 => k_is)
    (case l46 => k_is)
    (case c46 => k_is)
    (case k46 => k_is)
    (case z0 => k_is)
    (case z1 => k_is)
    (case z2 => k_is)
    (case z3 => k_is)
    (case z4 => k_is)
    (case z5 => k_is)
    (case z6 => k_is)
    (case z7 => k_is)
    (case z8 => k_is)
    (case z9 => k_is)
    (case z10 => k_is)
    (case z11 => k_is)
    (case z12 => k_is)
    (case z13 => k_is)
    (case xFIRST => k_is)
    (case pgKin => k_is)
    (case hdKin => k_is)
    (case poKin => k_is)
    (case saKin => k_is)
    (case mkKin => k_is)
    (case kpKin => k_is)
    (case nKin_rows => k_is)
    (case nKin_members => k_is)
    (case nKin_parents => k_is)
    (case nKin_sessions => k_is)
    (case nKin_groups => k_is)
    (case nKin_adopting => k_is)
    (case nKin_root => k_is)

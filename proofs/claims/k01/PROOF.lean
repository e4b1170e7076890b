import PyProof.Rows.All
import Wide.All
import OpenK.AllK
import Wide.FinOn
import HandS.ForMost
import HandS.Exc
import HandS.TryOnly
import HandS.ExcOwn
import HandS.ExcInit
import HandS.WordsExc
import HandS.Deep
import HandS.TupAny
import HandS.IsInst
import KE.DataEq
import HandS.Flow
import HandS.Style
import HandS.TupMul
import HandS.CallSlots
import HandS.Walk
import HandS.Text
import HandS.More
import HandS.Conv
import HandS.ExcField
import HandS.TryMany
import KE.KExcIs
import HandS.Head0
import HandS.Head1
import HandS.Head2
import HandS.HeadEnd
import HandS.HeadHook1
import HandS.HeadHook2
import Lean
import PySem.Challenge.RW_calmgroups_k01_errors
set_option linter.all false
section
set_option Elab.async false
set_option linter.all false
set_option maxRecDepth 100000
namespace DL
open PySem PySem.Spec PyProof.Rows L2
abbrev D := PyData
abbrev Er := Str × List (Str × D)
/-- where the classes stand; the exception that a suite holds, its dict, its class -/
structure CT where
  cls : Str → Addr
  exc : Addr
  excd : Option Addr
  excc : Value
/-- an instance of an own class as data -/
def insD (c : Str) (fs : List (Str × D)) : D := .dict ((.str c, .none) :: fs.map fun p => (.str p.1, p.2))
/-- an error of an own class as data -/
def errD (c : Str) (fs : List (Str × D)) : D := .dict ((.none, .str c) :: fs.map fun p => (.str p.1, p.2))
/-- the script: a list that is read, never written -/
def scrD (ds : List D) : D := .dict [(.bool true, .list ds)]
section
variable (K : PySem.W.Frag) (ct : CT) (I : Hp)
mutual
inductive RV : V → D → Prop
  | non : RV .non .none
  | bl (b : Bool) : RV (.bl b) (.bool b)
  | int (i : Int) : RV (.int i) (.int i)
  | str (x : Str) : RV (.str x) (.str x)
  | lst {a : Addr} {xs : List V} {ds : List D} : I a = some (.lst xs) → RVs xs ds → RV (.ref a) (.list ds)
  | scr {a : Addr} {xs : List V} {ds : List D} : SqL K I a xs → RVs xs ds → RV (.ref a) (scrD ds)
  | tup {a : Addr} {xs : List V} {ds : List D} : SqT K I a xs → RVs xs ds → RV (.ref a) (.tuple ds)
  | ins {a dx : Addr} {c : Str} {fs : List (Str × V)} {ds : List (Str × D)} : I a = some (.ins (ct.cls c) dx fs) → I dx = some (.own a) → RFs fs ds → RV (.ref a) (insD c ds)
  | err {a dx : Addr} {c : Str} {fs : List (Str × V)} {ds : List (Str × D)} : I a = some (exo a (ct.cls c) (some dx)) → I dx = some (exd dx fs) → RFs fs ds → RV (.ref a) (errD c ds)
inductive RVs : List V → List D → Prop
  | nil : RVs [] []
  | cons {v : V} {vs : List V} {d : D} {ds : List D} : RV v d → RVs vs ds → RVs (v :: vs) (d :: ds)
inductive RFs : List (Str × V) → List (Str × D) → Prop
  | nil : RFs [] []
  | cons {n : Str} {v : V} {vs : List (Str × V)} {d : D} {ds : List (Str × D)} : RV v d → RFs vs ds → RFs ((n, v) :: vs) ((n, d) :: ds)
end
end
section
variable {K : PySem.W.Frag} {ct : CT} {I I' : Hp}
theorem same_rd {a : Addr} {u : HO} (e : Same I I') (h : Rd I a u) : Rd I' a u := h.elim (fun q => .inl (e _ _ q)) fun ⟨o, q⟩ => .inr ⟨o, e _ _ q⟩
theorem same_l {a : Addr} {xs : List V} (e : Same I I') (h : SqL K I a xs) : SqL K I' a xs := h.elim (fun q => .inl (same_rd e q)) .inr
theorem same_t {a : Addr} {xs : List V} (e : Same I I') (h : SqT K I a xs) : SqT K I' a xs := h.elim (fun q => .inl (same_rd e q)) .inr
mutual
theorem RV.mono (e : Same I I') : ∀ {v : V} {d : D}, RV K ct I v d → RV K ct I' v d
  | _, _, .non => .non
  | _, _, .bl b => .bl b
  | _, _, .int i => .int i
  | _, _, .str x => .str x
  | _, _, .lst h r => .lst (e _ _ h) (RVs.mono e r)
  | _, _, .scr h r => .scr (same_l e h) (RVs.mono e r)
  | _, _, .tup h r => .tup (same_t e h) (RVs.mono e r)
  | _, _, .ins h h' r => .ins (e _ _ h) (e _ _ h') (RFs.mono e r)
  | _, _, .err h h' r => .err (e _ _ h) (e _ _ h') (RFs.mono e r)
theorem RVs.mono (e : Same I I') : ∀ {v : List V} {d : List D}, RVs K ct I v d → RVs K ct I' v d
  | _, _, .nil => .nil
  | _, _, .cons h r => .cons (RV.mono e h) (RVs.mono e r)
theorem RFs.mono (e : Same I I') : ∀ {v : List (Str × V)} {d : List (Str × D)}, RFs K ct I v d → RFs K ct I' v d
  | _, _, .nil => .nil
  | _, _, .cons h r => .cons (RV.mono e h) (RFs.mono e r)
end
theorem insD_ne_list {c fs} {ds : List D} : insD c fs ≠ .list ds := by intro h; cases h
theorem insD_ne_tup {c fs} {ds : List D} : insD c fs ≠ .tuple ds := by intro h; cases h
mutual
theorem RV.dp {H : Hp} (e : Same I H) : ∀ {v : V} {d : D}, RV K ct I v d → d.plain = true → Dp K H v d
  | _, _, .non, _ => .non
  | _, _, .bl b, _ => .bl b
  | _, _, .int i, _ => .int i
  | _, _, .str x, _ => .str x
  | _, _, .lst h r, p => .lst (.of (e _ _ h)) (RVs.dp e r (by simpa [PyData.plain] using p))
  | _, _, .scr h r, p => by simp [scrD, PyData.plain] at p
  | _, _, .tup h r, p => .tup (same_t e h) (RVs.dp e r (by simpa [PyData.plain] using p))
  | _, _, .ins h h' r, p => by simp [insD, PyData.plain] at p
  | _, _, .err h h' r, p => by simp [errD, PyData.plain] at p
theorem RVs.dp {H : Hp} (e : Same I H) : ∀ {v : List V} {d : List D}, RVs K ct I v d → PyData.plainAll d = true → DpAll K H v d
  | _, _, .nil, _ => .nil
  | _, _, .cons h r, p => by
    simp only [PyData.plainAll, Bool.and_eq_true] at p
    exact .cons (RV.dp e h p.1) (RVs.dp e r p.2)
end
theorem RVs.length : ∀ {v : List V} {d : List D}, RVs K ct I v d → v.length = d.length
  | _, _, .nil => rfl
  | _, _, .cons _ r => congrArg (· + 1) (RVs.length r)
theorem RVs.get : ∀ {vs : List V} {ds : List D} {i : Nat} {d : D}, RVs K ct I vs ds → ds[i]? = some d → ∃ v, vs[i]? = some v ∧ RV K ct I v d
  | _, _, 0, _, .cons h _, e => ⟨_, rfl, by cases e; exact h⟩
  | _, _, i + 1, _, .cons _ r, e => RVs.get (i := i) r e
  | _, _, i, _, .nil, e => by simp at e
theorem RVs.get' : ∀ {vs : List V} {ds : List D} {i : Nat} {v : V}, RVs K ct I vs ds → vs[i]? = some v → ∃ d, ds[i]? = some d ∧ RV K ct I v d
  | _, _, 0, _, .cons h _, e => ⟨_, rfl, by cases e; exact h⟩
  | _, _, i + 1, _, .cons _ r, e => RVs.get' (i := i) r e
  | _, _, i, _, .nil, e => by simp at e
theorem RVs.append : ∀ {vs ws : List V} {ds es : List D}, RVs K ct I vs ds → RVs K ct I ws es → RVs K ct I (vs ++ ws) (ds ++ es)
  | _, _, _, _, .nil, q => q
  | _, _, _, _, .cons h r, q => .cons h (RVs.append r q)
theorem RVs.take : ∀ {vs : List V} {ds : List D} (n : Nat), RVs K ct I vs ds → RVs K ct I (vs.take n) (ds.take n)
  | _, _, 0, _ => .nil
  | _, _, n + 1, .nil => .nil
  | _, _, n + 1, .cons h r => .cons h (RVs.take n r)
theorem RVs.drop : ∀ {vs : List V} {ds : List D} (n : Nat), RVs K ct I vs ds → RVs K ct I (vs.drop n) (ds.drop n)
  | _, _, 0, h => h
  | _, _, n + 1, .nil => .nil
  | _, _, n + 1, .cons _ r => RVs.drop n r
theorem RVs.set : ∀ {vs : List V} {ds : List D} {v : V} {d : D} (n : Nat), RVs K ct I vs ds → RV K ct I v d → RVs K ct I (vs.set n v) (ds.set n d)
  | _, _, _, _, 0, .cons _ r, q => .cons q r
  | _, _, _, _, n + 1, .cons h r, q => .cons h (RVs.set n r q)
  | _, _, _, _, 0, .nil, q => .nil
  | _, _, _, _, n + 1, .nil, q => .nil
theorem RVs.one {v : V} {d : D} (h : RV K ct I v d) : RVs K ct I [v] [d] := .cons h .nil
end
/-- what a slot of a frame holds: nothing, data that stands, a list of one's own, an object of one's own -/
inductive Sl where
  | non | dat (d : D) | own (xs : List D) | obj (c : Str) (fs : List (Str × D)) | exn (e : Er)
abbrev Env := List Sl
/-- I what stands, H all that is tracked, w the addresses that each slot owns -/
structure Wd where
  I : Hp
  H : Hp
  w : List (List Addr)
abbrev Wd.own (W : Wd) : List Addr := W.w.flatten
section
variable (K : PySem.W.Frag) (ct : CT)
def RSl (I H : Hp) (v : V) (as : List Addr) : Sl → Prop
  | .non => as = []
  | .dat d => as = [] ∧ RV K ct I v d
  | .own xs => ∃ a vs, v = .ref a ∧ as = [a] ∧ I a = none ∧ H a = some (.lst vs) ∧ RVs K ct I vs xs
  | .exn e => as = [] ∧ v = .ref ct.exc ∧ ct.excc = .ref (ct.cls e.1) ∧ ∃ dd fs, ct.excd = some dd ∧ I dd = some (.xd fs) ∧ RFs K ct I fs e.2
  | .obj c fs => ∃ a dx gs, v = .ref a ∧ as = [a, dx] ∧ I a = none ∧ I dx = none ∧ H a = some (.ins (ct.cls c) dx gs) ∧ H dx = some (.own a) ∧ RFs K ct I gs fs
/-- an optional slot: an empty one says nothing -/
def RSo (I H : Hp) (o : Option V) (as : List Addr) : Sl → Prop
  | .non => as = []
  | s => ∃ v, o = some v ∧ RSl K ct I H v as s
inductive Reps (I H : Hp) : L2.St → Env → List (List Addr) → Prop
  | nil : Reps I H [] [] []
  | cons {o : Option V} {σ : L2.St} {s : Sl} {ρ : Env} {as : List Addr} {w : List (List Addr)} : RSo K ct I H o as s → Reps I H σ ρ w → Reps I H (o :: σ) (s :: ρ) (as :: w)
structure Rep (W : Wd) (σ : L2.St) (ρ : Env) : Prop where
  same : Same W.I W.H
  reps : Reps K ct W.I W.H σ ρ W.w
  nd : W.own.Nodup
end
structure Wst (W W' : Wd) : Prop where
  same : Same W.I W'.I
  frame : ∀ b o, W.H b = some o → b ∉ W.own → W'.H b = some o
  ofr : ∀ b, b ∈ W'.own → b ∈ W.own ∨ W.H b = none
  ifr : ∀ b o, W'.I b = some o → W.I b = some o ∨ b ∈ W.own ∨ W.H b = none
  alive : ∀ b o, W.H b = some o → ∃ o', W'.H b = some o'
theorem Wst.refl (W : Wd) : Wst W W := ⟨.refl _, fun _ _ h _ => h, fun _ h => .inl h, fun _ _ h => .inl h, fun _ o h => ⟨o, h⟩⟩
theorem dead {W W' : Wd} (a : Wst W W') {b : Addr} (h : W'.H b = none) : W.H b = none := by
  cases e : W.H b with
  | none => rfl
  | some o =>
    obtain ⟨o', q⟩ := a.alive b o e
    rw [h] at q; cases q
theorem Wst.trans {W W1 W2 : Wd} (a : Wst W W1) (b : Wst W1 W2) : Wst W W2 where
  same := a.same.trans b.same
  frame c o h n := b.frame c o (a.frame c o h n) fun m => (a.ofr c m).elim n fun e => by rw [h] at e; cases e
  ofr c m := (b.ofr c m).elim (a.ofr c) fun e => .inr (dead a e)
  ifr c o h := (b.ifr c o h).elim (a.ifr c o) fun q => q.elim (fun m => .inr (a.ofr c m)) fun e => .inr (.inr (dead a e))
  alive c o h := by
    obtain ⟨o1, q⟩ := a.alive c o h
    exact b.alive c o1 q
section
variable {K : PySem.W.Frag} {ct : CT} {I I' H H' : Hp}
/-- a slot stays while what stands grows and its own cells are kept -/
theorem RSl.mono {v : V} {as : List Addr} {s : Sl} (h : RSl K ct I H v as s) (e : Same I I') (hn : ∀ a ∈ as, I a = none → I' a = none) (k : ∀ a ∈ as, ∀ o, H a = some o → H' a = some o) : RSl K ct I' H' v as s := by
  cases s with
  | non => exact h
  | dat d => exact ⟨h.1, h.2.mono e⟩
  | own xs =>
    obtain ⟨a, vs, rfl, rfl, n, ha, r⟩ := h
    exact ⟨a, vs, rfl, rfl, hn a (by simp) n, k a (by simp) _ ha, r.mono e⟩
  | obj c fs =>
    obtain ⟨a, dx, gs, rfl, rfl, n, n', ha, hd, r⟩ := h
    exact ⟨a, dx, gs, rfl, rfl, hn a (by simp) n, hn dx (by simp) n', k a (by simp) _ ha, k dx (by simp) _ hd, r.mono e⟩
  | exn er =>
    obtain ⟨h1, h2, h3, dd, fs, h4, h5, h6⟩ := h
    exact ⟨h1, h2, h3, dd, fs, h4, e _ _ h5, h6.mono e⟩
theorem RSo.mono {o : Option V} {as : List Addr} {s : Sl} (h : RSo K ct I H o as s) (e : Same I I') (hn : ∀ a ∈ as, I a = none → I' a = none) (k : ∀ a ∈ as, ∀ o, H a = some o → H' a = some o) : RSo K ct I' H' o as s := by
  cases s with
  | non => exact h
  | dat d => obtain ⟨v, q, r⟩ := h; exact ⟨v, q, r.mono e hn k⟩
  | own xs => obtain ⟨v, q, r⟩ := h; exact ⟨v, q, r.mono e hn k⟩
  | obj c fs => obtain ⟨v, q, r⟩ := h; exact ⟨v, q, r.mono e hn k⟩
  | exn er => obtain ⟨v, q, r⟩ := h; exact ⟨v, q, r.mono e hn k⟩
theorem Reps.mono {σ : L2.St} {ρ : Env} {w : List (List Addr)} (h : Reps K ct I H σ ρ w) (e : Same I I') (hn : ∀ a ∈ w.flatten, I a = none → I' a = none) (k : ∀ a ∈ w.flatten, ∀ o, H a = some o → H' a = some o) : Reps K ct I' H' σ ρ w := by
  induction h with
  | nil => exact .nil
  | cons h r ih => exact .cons (h.mono e (fun a m => hn a (by simp [m])) fun a m => k a (by simp [m])) (ih (fun a m => hn a (by rw [List.flatten_cons]; exact List.mem_append_right _ m)) fun a m => k a (by rw [List.flatten_cons]; exact List.mem_append_right _ m))
theorem Reps.length {σ : L2.St} {ρ : Env} {w : List (List Addr)} (h : Reps K ct I H σ ρ w) : σ.length = ρ.length ∧ w.length = ρ.length := by
  induction h with
  | nil => exact ⟨rfl, rfl⟩
  | cons h r ih => exact ⟨congrArg (· + 1) ih.1, congrArg (· + 1) ih.2⟩
theorem RSo.of {v : V} {as : List Addr} {s : Sl} (h : RSl K ct I H v as s) : RSo K ct I H (some v) as s := by
  cases s with
  | non => exact h
  | dat d => exact ⟨v, rfl, h⟩
  | own xs => exact ⟨v, rfl, h⟩
  | obj c fs => exact ⟨v, rfl, h⟩
  | exn er => exact ⟨v, rfl, h⟩
/-- the slot i -/
theorem Reps.at {σ : L2.St} {ρ : Env} {w : List (List Addr)} (h : Reps K ct I H σ ρ w) : ∀ {i : Nat} {s : Sl}, ρ[i]? = some s → ∃ o as, σ[i]? = some o ∧ w[i]? = some as ∧ RSo K ct I H o as s := by
  induction h with
  | nil => intro i s e; simp at e
  | cons h r ih =>
    intro i s e
    cases i with
    | zero => cases e; exact ⟨_, _, rfl, rfl, h⟩
    | succ i => exact ih (i := i) e
/-- a slot is set -/
theorem Reps.set {σ : L2.St} {ρ : Env} {w : List (List Addr)} (h : Reps K ct I H σ ρ w) : ∀ (i : Nat) {o : Option V} {as : List Addr} {s : Sl}, RSo K ct I H o as s → Reps K ct I H (σ.set i o) (ρ.set i s) (w.set i as) := by
  induction h with
  | nil => intro i o as s q; exact .nil
  | cons h r ih =>
    intro i o as s q
    cases i with
    | zero => exact .cons q r
    | succ i => exact .cons h (ih i q)
end
end DL
end
section
set_option Elab.async false
set_option linter.all false
set_option maxRecDepth 100000
namespace DL
open PySem PySem.Spec PyProof.Rows L2
/-- a value on its way: a slot's content that is nobody's, or what slot i holds -/
inductive Vl where
  | sl (s : Sl) | bor (i : Nat)
inductive Out (α : Type) where
  | ok (a : α) (ρ : Env) | err (e : Er) (ρ : Env) | bad
def Out.bind {α β : Type} : Out α → (α → Env → Out β) → Out β
  | .ok a ρ, k => k a ρ
  | .err e ρ, _ => .err e ρ
  | .bad, _ => .bad
@[simp] theorem Out.bind_ok {α β : Type} (a : α) (ρ : Env) (k : α → Env → Out β) : (Out.ok a ρ).bind k = k a ρ := rfl
@[simp] theorem Out.bind_err {α β : Type} (e : Er) (ρ : Env) (k : α → Env → Out β) : (Out.err e ρ).bind k = .err e ρ := rfl
@[simp] theorem Out.bind_bad {α β : Type} (k : α → Env → Out β) : (Out.bad : Out α).bind k = .bad := rfl
def Sl.look : Sl → Option D
  | .non => none
  | .dat d => some d
  | .own xs => some (.list xs)
  | .obj c fs => some (insD c fs)
  | .exn _ => none
def lookD : Vl → Env → Option D
  | .sl s, _ => s.look
  | .bor i, ρ => (ρ.getD i .non).look
section
variable (K : PySem.W.Frag) (ct : CT)
/-- new, or owned then -/
def Fr0 (W0 : Wd) (a : Addr) : Prop := W0.H a = none ∨ a ∈ W0.own
def RVl (W0 W : Wd) (σ : L2.St) (v : V) : Vl → Prop
  | .sl s => s ≠ .non ∧ ∃ as, RSl K ct W.I W.H v as s ∧ as.Nodup ∧ ∀ a ∈ as, a ∉ W.own ∧ Fr0 W0 a
  | .bor i => σ[i]? = some (some v)
/-- the fields of an error -/
def RErr (W : Wd) (cls : Value) (d : Option Addr) (e : Er) : Prop :=
  cls = .ref (ct.cls e.1) ∧ ∃ dd fs, d = some dd ∧ W.I dd = some (.xd fs) ∧ RFs K ct W.I fs e.2
def EPost (W : Wd) (σ : L2.St) (Wx : WX) (out : Out Vl) (Q : VK) : Prop :=
  match out with
  | .ok vl ρ' => ∀ v W', Wst W W' → Rep K ct W' σ ρ' → RVl K ct W W' σ v vl → Q v W'.H
  | .err e ρ' => ∀ cls d W', Wst W W' → Rep K ct W' σ ρ' → RErr K ct W' cls d e → Wx cls d σ W'.H
  | .bad => False
def APost (W : Wd) (σ : L2.St) (Wx : WX) (out : Out (List D)) (Q : List V → Hp → Prop) : Prop :=
  match out with
  | .ok ds ρ' => ∀ vs W', Wst W W' → Rep K ct W' σ ρ' → RVs K ct W'.I vs ds → Q vs W'.H
  | .err e ρ' => ∀ cls d W', Wst W W' → Rep K ct W' σ ρ' → RErr K ct W' cls d e → Wx cls d σ W'.H
  | .bad => False
def TPost (W : Wd) (σ : L2.St) (Wx : WX) (out : Out Bool) (Q : Bool → Hp → Prop) : Prop :=
  match out with
  | .ok b ρ' => ∀ W', Wst W W' → Rep K ct W' σ ρ' → Q b W'.H
  | .err e ρ' => ∀ cls d W', Wst W W' → Rep K ct W' σ ρ' → RErr K ct W' cls d e → Wx cls d σ W'.H
  | .bad => False
def rdE (Wx : WX) (F : Env → Out Vl) : TE := fun σ H Q => ∃ W ρ, W.H = H ∧ Rep K ct W σ ρ ∧ EPost K ct W σ Wx (F ρ) Q
def rdA (Wx : WX) (F : Env → Out (List D)) : TA := fun σ H Q => ∃ W ρ, W.H = H ∧ Rep K ct W σ ρ ∧ APost K ct W σ Wx (F ρ) Q
def rdT (Wx : WX) (F : Env → Out Bool) : TT := fun σ H Q => ∃ W ρ, W.H = H ∧ Rep K ct W σ ρ ∧ TPost K ct W σ Wx (F ρ) Q
end
section
variable (ct : CT) (X : Cx) (Wx : WX)
def DE (e : Expr) (F : Env → Out Vl) : Prop := PE X e (rdE X.K ct Wx F)
def DA (es : List Expr) (F : Env → Out (List D)) : Prop := PA X es (rdA X.K ct Wx F)
def DT (e : Expr) (F : Env → Out Bool) : Prop := PT X e (rdT X.K ct Wx F)
end
theorem pe_imp {X : Cx} {e : Expr} {t t' : TE} (h : PE X e t) (i : ∀ σ H Q, t' σ H Q → t σ H Q) : PE X e t' := ⟨fun pins s σ H Q I q => h.run pins s σ H Q I (i σ H Q q)⟩
theorem pa_imp {X : Cx} {e : List Expr} {t t' : TA} (h : PA X e t) (i : ∀ σ H Q, t' σ H Q → t σ H Q) : PA X e t' := ⟨fun pos pins s σ H Q I q => h.run pos pins s σ H Q I (i σ H Q q)⟩
theorem pt_imp {X : Cx} {e : Expr} {t t' : TT} (h : PT X e t) (i : ∀ σ H Q, t' σ H Q → t σ H Q) : PT X e t' := ⟨fun pins s σ H Q I q => h.run pins s σ H Q I (i σ H Q q)⟩
theorem ps_imp {X : Cx} {e : Stmt} {t t' : TS} (h : PS X e t) (i : ∀ D σ H, t' D σ H → t D σ H) : PS X e t' := ⟨fun pins s σ H D I q => h.run pins s σ H D I (i D σ H q)⟩
theorem pss_imp {X : Cx} {e : List Stmt} {t t' : TS} (h : PSs X e t) (i : ∀ D σ H, t' D σ H → t D σ H) : PSs X e t' := ⟨fun pins s σ H D I q => h.run pins s σ H D I (i D σ H q)⟩
theorem fr0_back {W W1 : Wd} (s : Wst W W1) {a : Addr} (h : Fr0 W1 a) : Fr0 W a := h.elim (fun e => .inl (dead s e)) fun m => (s.ofr a m).elim .inr .inl
section
variable {K : PySem.W.Frag} {ct : CT} {W W1 W2 : Wd} {σ : L2.St} {ρ ρ' : Env} {Wx : WX}
theorem EPost.mono {out : Out Vl} {Q : VK} (h : EPost K ct W σ Wx out Q) (s : Wst W W1) : EPost K ct W1 σ Wx out Q := by
  cases out with
  | ok vl ρ' =>
    intro v W' s' R r
    refine h v W' (s.trans s') R ?_
    cases vl with
    | bor i => exact r
    | sl sl =>
      obtain ⟨n, as, q, nd, f⟩ := r
      exact ⟨n, as, q, nd, fun a m => ⟨(f a m).1, fr0_back s (f a m).2⟩⟩
  | err e ρ' => exact fun c d W' s' R r => h c d W' (s.trans s') R r
  | bad => exact h
theorem APost.mono {out : Out (List D)} {Q : List V → Hp → Prop} (h : APost K ct W σ Wx out Q) (s : Wst W W1) : APost K ct W1 σ Wx out Q := by
  cases out with
  | ok vl ρ' => exact fun v W' s' R r => h v W' (s.trans s') R r
  | err e ρ' => exact fun c d W' s' R r => h c d W' (s.trans s') R r
  | bad => exact h
theorem TPost.mono {out : Out Bool} {Q : Bool → Hp → Prop} (h : TPost K ct W σ Wx out Q) (s : Wst W W1) : TPost K ct W1 σ Wx out Q := by
  cases out with
  | ok vl ρ' => exact fun W' s' R => h W' (s.trans s') R
  | err e ρ' => exact fun c d W' s' R r => h c d W' (s.trans s') R r
  | bad => exact h
/-- an expression, then what is done with its value -/
theorem EPost.bind {o : Out Vl} {k : Vl → Env → Out Vl} {Q Q' : VK} (h : EPost K ct W σ Wx (o.bind k) Q)
    (hk : ∀ vl ρ1 v W1, Wst W W1 → Rep K ct W1 σ ρ1 → RVl K ct W W1 σ v vl → EPost K ct W σ Wx (k vl ρ1) Q → Q' v W1.H) : EPost K ct W σ Wx o Q' := by
  cases o with
  | ok vl ρ' => exact fun v W' s R r => hk vl ρ' v W' s R r h
  | err e ρ' => exact h
  | bad => exact h
theorem EPost.bindA {o : Out Vl} {k : Vl → Env → Out (List D)} {Q : List V → Hp → Prop} {Q' : VK} (h : APost K ct W σ Wx (o.bind k) Q)
    (hk : ∀ vl ρ1 v W1, Wst W W1 → Rep K ct W1 σ ρ1 → RVl K ct W W1 σ v vl → APost K ct W σ Wx (k vl ρ1) Q → Q' v W1.H) : EPost K ct W σ Wx o Q' := by
  cases o with
  | ok vl ρ' => exact fun v W' s R r => hk vl ρ' v W' s R r h
  | err e ρ' => exact h
  | bad => exact h
theorem EPost.bindT {o : Out Vl} {k : Vl → Env → Out Bool} {Q : Bool → Hp → Prop} {Q' : VK} (h : TPost K ct W σ Wx (o.bind k) Q)
    (hk : ∀ vl ρ1 v W1, Wst W W1 → Rep K ct W1 σ ρ1 → RVl K ct W W1 σ v vl → TPost K ct W σ Wx (k vl ρ1) Q → Q' v W1.H) : EPost K ct W σ Wx o Q' := by
  cases o with
  | ok vl ρ' => exact fun v W' s R r => hk vl ρ' v W' s R r h
  | err e ρ' => exact h
  | bad => exact h
theorem APost.bindA {o : Out (List D)} {k : List D → Env → Out (List D)} {Q Q' : List V → Hp → Prop} (h : APost K ct W σ Wx (o.bind k) Q)
    (hk : ∀ ds ρ1 vs W1, Wst W W1 → Rep K ct W1 σ ρ1 → RVs K ct W1.I vs ds → APost K ct W σ Wx (k ds ρ1) Q → Q' vs W1.H) : APost K ct W σ Wx o Q' := by
  cases o with
  | ok vl ρ' => exact fun v W' s R r => hk vl ρ' v W' s R r h
  | err e ρ' => exact h
  | bad => exact h
theorem APost.bindE {o : Out (List D)} {k : List D → Env → Out Vl} {Q : VK} {Q' : List V → Hp → Prop} (h : EPost K ct W σ Wx (o.bind k) Q)
    (hk : ∀ ds ρ1 vs W1, Wst W W1 → Rep K ct W1 σ ρ1 → RVs K ct W1.I vs ds → EPost K ct W σ Wx (k ds ρ1) Q → Q' vs W1.H) : APost K ct W σ Wx o Q' := by
  cases o with
  | ok vl ρ' => exact fun v W' s R r => hk vl ρ' v W' s R r h
  | err e ρ' => exact h
  | bad => exact h
theorem TPost.bind {o : Out Bool} {k : Bool → Env → Out Bool} {Q Q' : Bool → Hp → Prop} (h : TPost K ct W σ Wx (o.bind k) Q)
    (hk : ∀ b ρ1 W1, Wst W W1 → Rep K ct W1 σ ρ1 → TPost K ct W σ Wx (k b ρ1) Q → Q' b W1.H) : TPost K ct W σ Wx o Q' := by
  cases o with
  | ok vl ρ' => exact fun W' s R => hk vl ρ' W' s R h
  | err e ρ' => exact h
  | bad => exact h
theorem TPost.bindE {o : Out Bool} {k : Bool → Env → Out Vl} {Q : VK} {Q' : Bool → Hp → Prop} (h : EPost K ct W σ Wx (o.bind k) Q)
    (hk : ∀ b ρ1 W1, Wst W W1 → Rep K ct W1 σ ρ1 → EPost K ct W σ Wx (k b ρ1) Q → Q' b W1.H) : TPost K ct W σ Wx o Q' := by
  cases o with
  | ok vl ρ' => exact fun W' s R => hk vl ρ' W' s R h
  | err e ρ' => exact h
  | bad => exact h
/-- a value stays while another expression is evaluated -/
theorem RVl.keep {W0 : Wd} {v : V} {vl : Vl} (h : RVl K ct W0 W σ v vl) (s : Wst W W1) : RVl K ct W0 W1 σ v vl := by
  cases vl with
  | bor i => exact h
  | sl sl =>
    obtain ⟨n, as, q, nd, f⟩ := h
    have alive : ∀ a ∈ as, W.I a = none ∧ ∃ o, W.H a = some o := by
      intro a m
      cases sl with
      | non => exact absurd rfl n
      | dat d => rw [q.1] at m; simp at m
      | own xs =>
        obtain ⟨b, vs, rfl, rfl, hn, hb, r⟩ := q
        simp at m; subst m; exact ⟨hn, _, hb⟩
      | obj c fs =>
        obtain ⟨b, dx, gs, rfl, rfl, hn, hn', hb, hd, r⟩ := q
        simp at m
        rcases m with rfl | rfl
        · exact ⟨hn, _, hb⟩
        · exact ⟨hn', _, hd⟩
      | exn er => rw [q.1] at m; simp at m
    refine ⟨n, as, q.mono s.same (fun a m hn => ?_) (fun a m o ho => s.frame a o ho (f a m).1), nd, fun a m => ⟨fun hm => ?_, (f a m).2⟩⟩
    · cases e : W1.I a with
      | none => rfl
      | some o =>
        rcases s.ifr a o e with h1 | h1 | h1
        · rw [hn] at h1; cases h1
        · exact absurd h1 (f a m).1
        · obtain ⟨_, o', ho⟩ := alive a m
          rw [h1] at ho; cases ho
    · rcases s.ofr a hm with h1 | h1
      · exact (f a m).1 h1
      · obtain ⟨_, o', ho⟩ := alive a m
        rw [h1] at ho; cases ho
/-- the spine in H, the items in I -/
def RL (K : PySem.W.Frag) (ct : CT) (I H : Hp) (v : V) : D → Prop
  | .none => v = .non
  | .bool b => v = .bl b
  | .int i => v = .int i
  | .str x => v = .str x
  | .list ds => ∃ a vs, v = .ref a ∧ H a = some (.lst vs) ∧ RVs K ct I vs ds
  | .tuple ds => ∃ a vs, v = .ref a ∧ SqT K I a vs ∧ RVs K ct I vs ds
  | .dict kvs => (∃ c ds a dx fs, .dict kvs = insD c ds ∧ v = .ref a ∧ H a = some (.ins (ct.cls c) dx fs) ∧ H dx = some (.own a) ∧ RFs K ct I fs ds) ∨ (∃ ds a vs, .dict kvs = scrD ds ∧ v = .ref a ∧ SqL K I a vs ∧ RVs K ct I vs ds) ∨
    ∃ c ds a dx fs, .dict kvs = errD c ds ∧ v = .ref a ∧ I a = some (exo a (ct.cls c) (some dx)) ∧ I dx = some (exd dx fs) ∧ RFs K ct I fs ds
theorem RV.rl {I H : Hp} (e : Same I H) {v : V} {d : D} (h : RV K ct I v d) : RL K ct I H v d := by
  cases h with
  | non => rfl
  | bl b => rfl
  | int i => rfl
  | str x => rfl
  | lst h r => exact ⟨_, _, rfl, e _ _ h, r⟩
  | scr h r => exact .inr (.inl ⟨_, _, _, rfl, rfl, h, r⟩)
  | err h h' r => exact .inr (.inr ⟨_, _, _, _, _, rfl, rfl, h, h', r⟩)
  | tup h r => exact ⟨_, _, rfl, h, r⟩
  | ins h h' r => exact .inl ⟨_, _, _, _, _, rfl, rfl, e _ _ h, e _ _ h', r⟩
theorem RL.rv {I H : Hp} (e : Same I H) {v : V} : ∀ {d : D}, RL K ct I H v d → RV K ct H v d
  | .none, h => by rw [show v = .non from h]; exact .non
  | .bool b, h => by rw [show v = .bl b from h]; exact .bl b
  | .int i, h => by rw [show v = .int i from h]; exact .int i
  | .str x, h => by rw [show v = .str x from h]; exact .str x
  | .list ds, h => by obtain ⟨a, vs, rfl, q, r⟩ := h; exact .lst q (r.mono e)
  | .tuple ds, h => by obtain ⟨a, vs, rfl, q, r⟩ := h; exact .tup (same_t e q) (r.mono e)
  | .dict kvs, h => by
    rcases h with ⟨c, ds, a, dx, fs, q, rfl, h1, h2, r⟩ | ⟨ds, a, vs, q, rfl, h1, r⟩ | ⟨c, ds, a, dx, fs, q, rfl, h1, h2, r⟩
    · rw [q]; exact .ins h1 h2 (r.mono e)
    · rw [q]; exact .scr (same_l e h1) (r.mono e)
    · rw [q]; exact .err (e _ _ h1) (e _ _ h2) (r.mono e)
theorem RSl.rl {I H : Hp} (e : Same I H) {v : V} {as : List Addr} {s : Sl} {d : D} (h : RSl K ct I H v as s) (hl : s.look = some d) : RL K ct I H v d := by
  cases s with
  | non => cases hl
  | dat x => cases hl; exact h.2.rl e
  | own xs =>
    cases hl
    obtain ⟨a, vs, rfl, rfl, n, ha, r⟩ := h
    exact ⟨a, vs, rfl, ha, r⟩
  | obj c fs =>
    cases hl
    obtain ⟨a, dx, gs, rfl, rfl, n, n', ha, hd, r⟩ := h
    exact .inl ⟨c, fs, a, dx, gs, rfl, rfl, ha, hd, r⟩
  | exn er => cases hl
theorem getD_some {ρ : Env} {i : Nat} {s : Sl} (h : ρ.getD i .non = s) (n : s ≠ .non) : ρ[i]? = some s := by
  rw [List.getD_eq_getElem?_getD] at h
  cases e : ρ[i]? with
  | none => rw [e] at h; exact absurd h.symm n
  | some t => rw [e] at h; exact congrArg some h
theorem Rep.at {i : Nat} {s : Sl} (R : Rep K ct W σ ρ) (h : ρ.getD i .non = s) (n : s ≠ .non) : ∃ v as, σ[i]? = some (some v) ∧ W.w[i]? = some as ∧ RSl K ct W.I W.H v as s := by
  obtain ⟨o, as, h1, h2, h3⟩ := R.reps.at (getD_some h n)
  cases s with
  | non => exact absurd rfl n
  | dat d => obtain ⟨v, rfl, q⟩ := h3; exact ⟨v, as, h1, h2, q⟩
  | own xs => obtain ⟨v, rfl, q⟩ := h3; exact ⟨v, as, h1, h2, q⟩
  | obj c fs => obtain ⟨v, rfl, q⟩ := h3; exact ⟨v, as, h1, h2, q⟩
  | exn er => obtain ⟨v, rfl, q⟩ := h3; exact ⟨v, as, h1, h2, q⟩
theorem RVl.rl {W0 : Wd} {v : V} {vl : Vl} {d : D} (R : Rep K ct W σ ρ) (h : RVl K ct W0 W σ v vl) (hl : lookD vl ρ = some d) : RL K ct W.I W.H v d := by
  cases vl with
  | sl s =>
    obtain ⟨n, as, q, _⟩ := h
    exact q.rl R.same hl
  | bor i =>
    have n : ρ.getD i .non ≠ .non := fun e => by
      have hl' : (ρ.getD i .non).look = some d := hl
      rw [e] at hl'; cases hl'
    obtain ⟨u, as, h1, h2, h3⟩ := R.at rfl n
    have e : u = v := by
      have h' : σ[i]? = some (some v) := h
      rw [h1] at h'; cases h'; rfl
    subst e
    exact h3.rl R.same hl
end
/-- what an operation gives: data that is there, a tuple that is new or not, a new list -/
inductive Res where
  | d (x : D) | tup (xs : List D) | lst (xs : List D)
def Res.vl : Res → Vl
  | .d x => .sl (.dat x)
  | .tup xs => .sl (.dat (.tuple xs))
  | .lst xs => .sl (.own xs)
def RRes (K : PySem.W.Frag) (ct : CT) (I H : Hp) (Q : VK) : Res → Prop
  | .d x => ∀ v, RV K ct I v x → Q v H
  | .tup xs => (∀ v, RV K ct I v (.tuple xs) → Q v H) ∧ ∀ p ws, H p = none → RVs K ct I ws xs → Q (.ref p) (upd H p (.tup ws))
  | .lst xs => ∀ p ws, H p = none → RVs K ct I ws xs → Q (.ref p) (upd H p (.lst ws))
section
variable {K : PySem.W.Frag} {ct : CT} {W W1 W2 : Wd} {σ : L2.St} {ρ ρ' : Env} {Wx : WX}
theorem RVl.dat {W0 : Wd} {v : V} {x : D} (h : RV K ct W.I v x) : RVl K ct W0 W σ v (.sl (.dat x)) := ⟨nofun, [], ⟨rfl, h⟩, .nil, fun _ m => by simp at m⟩
theorem own_live {I H : Hp} {ρ : Env} {w : List (List Addr)} (h : Reps K ct I H σ ρ w) : ∀ a ∈ w.flatten, I a = none ∧ ∃ o, H a = some o := by
  induction h with
  | nil => intro a m; simp at m
  | cons h r ih =>
    rename_i o σ' s ρ' as w'
    intro a m
    rw [List.flatten_cons, List.mem_append] at m
    rcases m with m | m
    · cases s with
      | non => rw [show as = [] from h] at m; simp at m
      | dat d => obtain ⟨v, _, q, _⟩ := h; rw [q] at m; simp at m
      | own xs =>
        obtain ⟨v, _, b, vs, rfl, rfl, hn, hb, r⟩ := h
        simp at m; subst m; exact ⟨hn, _, hb⟩
      | obj c fs =>
        obtain ⟨v, _, b, dx, gs, rfl, rfl, hn, hn', hb, hd, r⟩ := h
        simp at m
        rcases m with rfl | rfl
        · exact ⟨hn, _, hb⟩
        · exact ⟨hn', _, hd⟩
      | exn er => obtain ⟨v, _, q⟩ := h; rw [q.1] at m; simp at m
    · exact ih a m
theorem Rep.live (R : Rep K ct W σ ρ) {a : Addr} (m : a ∈ W.own) : W.I a = none ∧ ∃ o, W.H a = some o := own_live R.reps a m
theorem upd_none {H : Hp} {p b : Addr} {o : HO} (h : upd H p o b = none) : H b = none := by
  by_cases e : b = p
  · rw [e, upd_same] at h; cases h
  · rwa [upd_ne e] at h
/-- a new thing is laid: nobody's, or standing -/
theorem Rep.lay (R : Rep K ct W σ ρ) {p : Addr} (hp : W.H p = none) (o : HO) : Wst W { W with H := upd W.H p o } ∧ Rep K ct { W with H := upd W.H p o } σ ρ ∧ W.I p = none ∧ p ∉ W.own := by
  have hI : W.I p = none := by
    cases e : W.I p with
    | none => rfl
    | some u => have q := R.same _ _ e; rw [hp] at q; cases q
  have ho : p ∉ W.own := fun m => by
    obtain ⟨_, u, q⟩ := R.live m
    rw [hp] at q; cases q
  have up : ∀ b u, W.H b = some u → upd W.H p o b = some u := fun b u h => by rw [upd_ne (fun e => by rw [e, hp] at h; cases h)]; exact h
  refine ⟨⟨.refl _, fun b u h _ => up b u h, fun b m => .inl m, fun b u h => .inl h, fun b u h => ⟨u, up b u h⟩⟩, ⟨fun b u h => up b u (R.same b u h), R.reps.mono (.refl _) (fun _ _ h => h) fun b m u h => up b u h, R.nd⟩, hI, ho⟩
theorem Rep.layI (R : Rep K ct W σ ρ) {p : Addr} (hp : W.H p = none) (o : HO) : Wst W { W with I := upd W.I p o, H := upd W.H p o } ∧ Rep K ct { W with I := upd W.I p o, H := upd W.H p o } σ ρ := by
  obtain ⟨s, R', hI, ho⟩ := R.lay hp o
  have up : ∀ b u, W.I b = some u → upd W.I p o b = some u := fun b u h => by rw [upd_ne (fun e => by rw [e, hI] at h; cases h)]; exact h
  refine ⟨⟨up, s.frame, s.ofr, fun b u h => ?_, s.alive⟩, ⟨fun b u h => ?_, R'.reps.mono up (fun b m h => ?_) fun b m u h => h, R.nd⟩⟩
  · have h : upd W.I p o b = some u := h
    by_cases e : b = p
    · exact .inr (.inr (by rw [e]; exact hp))
    · rw [upd_ne e] at h; exact .inl h
  · have h : upd W.I p o b = some u := h
    by_cases e : b = p
    · rw [e, upd_same] at h; rw [e]; show upd W.H p o p = _; rw [upd_same]; exact h
    · rw [upd_ne e] at h; show upd W.H p o b = _; rw [upd_ne e]; exact R.same _ _ h
  · show upd W.I p o b = none
    rw [upd_ne (fun e => ho (by rw [← e]; exact m))]; exact h
theorem Rep.res (R : Rep K ct W σ ρ) {res : Res} {Q : VK} (h : EPost K ct W σ Wx (.ok res.vl ρ) Q) : RRes K ct W.I W.H Q res := by
  cases res with
  | d x => exact fun v r => h v W (.refl _) R (.dat r)
  | tup xs =>
    refine ⟨fun v r => h v W (.refl _) R (.dat r), fun p ws hp r => ?_⟩
    obtain ⟨s, R'⟩ := R.layI hp (.tup ws)
    exact h (.ref p) _ s R' (.dat (.tup (.inl (.inl upd_same)) (r.mono s.same)))
  | lst xs =>
    intro p ws hp r
    obtain ⟨s, R', hI, ho⟩ := R.lay hp (.lst ws)
    exact h (.ref p) _ s R' ⟨nofun, [p], ⟨p, ws, rfl, rfl, hI, upd_same, r⟩, by simp, fun a m => by simp at m; subst m; exact ⟨ho, .inl hp⟩⟩
end
/-- an operation on two pieces of data -/
def dOp (g : D → D → Option Res) (F G : Env → Out Vl) : Env → Out Vl := fun ρ => (F ρ).bind fun x ρ1 => (G ρ1).bind fun y ρ2 =>
  match lookD x ρ2, lookD y ρ2 with
  | some d, some e => match g d e with
    | some r => .ok r.vl ρ2
    | none => .bad
  | _, _ => .bad
/-- an operation's rule on data -/
def OpD (K : PySem.W.Frag) (ct : CT) (r : R2) (g : D → D → Option Res) : Prop :=
  ∀ (I H : Hp) (x y : V) (d e : D) (res : Res) (Q : VK), Same I H → RL K ct I H x d → RL K ct I H y e → g d e = some res → RRes K ct I H Q res → r x y H Q
section
variable {ct : CT} {X : Cx} {Wx : WX} {a b : Expr} {F G : Env → Out Vl} {pos : Pos}
theorem op_rd {r : R2} {g : D → D → Option Res} (hg : OpD X.K ct r g) (σ : L2.St) (H : Hp) (Q : VK) (h : rdE X.K ct Wx (dOp g F G) σ H Q) : tOp r (rdE X.K ct Wx F) (rdE X.K ct Wx G) σ H Q := by
  obtain ⟨W, ρ, rfl, R, h⟩ := h
  refine ⟨W, ρ, rfl, R, EPost.bind h fun vx ρ1 x W1 s1 R1 r1 h1 => ⟨W1, ρ1, rfl, R1, EPost.bind (h1.mono s1) fun vy ρ2 y W2 s2 R2 r2 h2 => ?_⟩⟩
  cases e1 : lookD vx ρ2 with
  | none => simp only [e1] at h2; exact h2.elim
  | some d =>
    cases e2 : lookD vy ρ2 with
    | none => simp only [e1, e2] at h2; exact h2.elim
    | some e =>
      cases e3 : g d e with
      | none => simp only [e1, e2, e3] at h2; exact h2.elim
      | some res =>
        simp only [e1, e2, e3] at h2
        exact hg W2.I W2.H x y d e res Q R2.same ((r1.keep s2).rl R2 e1) (r2.rl R2 e2) e3 (R2.res (h2.mono s2))
theorem de_bin {op : Operator} {r : R2} {g : D → D → Option Res} (ho : OpR X (binaryOp op) r) (hg : OpD X.K ct r g) (ha : DE ct X Wx a F) (hb : DE ct X Wx b G) : DE ct X Wx (.BinOp a op b pos) (dOp g F G) :=
  pe_imp (pe_op ho ha hb) (op_rd hg)
theorem de_cmp {op : CmpOp} {r : R2} {g : D → D → Option Res} (ho : OpR X (compareOp op) r) (hg : OpD X.K ct r g) (ha : DE ct X Wx a F) (hb : DE ct X Wx b G) (hm : behindInMarks op b = false) : DE ct X Wx (.Compare a [op] [b] pos) (dOp g F G) :=
  pe_imp (pe_cmpR ho ha hb hm) (op_rd hg)
end
end DL
end
section
set_option Elab.async false
set_option linter.all false
set_option maxRecDepth 100000
namespace DL
open PySem PySem.Spec PyProof.Rows L2
/-! ### single operands, truth, tests -/
def look1 (x : Vl) (ρ : Env) {β : Type} (g : D → Option β) : Option β := (lookD x ρ).bind g
def dUn (g : D → Option Res) (F : Env → Out Vl) : Env → Out Vl := fun ρ => (F ρ).bind fun x ρ1 =>
  match (lookD x ρ1).bind g with
  | some r => .ok r.vl ρ1
  | none => .bad
def UnD (K : PySem.W.Frag) (ct : CT) (r : V → Hp → VK → Prop) (g : D → Option Res) : Prop :=
  ∀ (I H : Hp) (x : V) (d : D) (res : Res) (Q : VK), Same I H → RL K ct I H x d → g d = some res → RRes K ct I H Q res → r x H Q
def truD : D → Option Bool
  | .none => some false
  | .bool b => some b
  | .int i => some (i != 0)
  | .str x => if x.length ≤ sizeLine then some ((x.length : Int) != 0) else none
  | .list xs => some (!xs.isEmpty)
  | .tuple xs => some (!xs.isEmpty)
  | .dict _ => none
def dTru (F : Env → Out Vl) : Env → Out Bool := fun ρ => (F ρ).bind fun x ρ1 =>
  match (lookD x ρ1).bind truD with
  | some b => .ok b ρ1
  | none => .bad
def boolD : D → Option Bool
  | .bool b => some b
  | _ => none
def dTst (F : Env → Out Vl) : Env → Out Bool := fun ρ => (F ρ).bind fun x ρ1 =>
  match (lookD x ρ1).bind boolD with
  | some b => .ok b ρ1
  | none => .bad
def tAnd' (F G : Env → Out Bool) : Env → Out Bool := fun ρ => (F ρ).bind fun b ρ1 => if b then G ρ1 else .ok false ρ1
def tOr' (F G : Env → Out Bool) : Env → Out Bool := fun ρ => (F ρ).bind fun b ρ1 => if b then .ok true ρ1 else G ρ1
def tNot' (F : Env → Out Bool) : Env → Out Bool := fun ρ => (F ρ).bind fun b ρ1 => .ok (!b) ρ1
def dB (b : Bool) : Vl := .sl (.dat (.bool b))
def dAnd (F G : Env → Out Vl) : Env → Out Vl := fun ρ => (F ρ).bind fun x ρ1 =>
  match (lookD x ρ1).bind boolD with
  | some b => if b then G ρ1 else .ok (dB false) ρ1
  | none => .bad
def dOr (F G : Env → Out Vl) : Env → Out Vl := fun ρ => (F ρ).bind fun x ρ1 =>
  match (lookD x ρ1).bind boolD with
  | some b => if b then .ok (dB true) ρ1 else G ρ1
  | none => .bad
def dNot (F : Env → Out Vl) : Env → Out Vl := fun ρ => (F ρ).bind fun x ρ1 =>
  match (lookD x ρ1).bind truD with
  | some b => .ok (dB (!b)) ρ1
  | none => .bad
def dIf (T : Env → Out Bool) (F G : Env → Out Vl) : Env → Out Vl := fun ρ => (T ρ).bind fun b ρ1 => if b then F ρ1 else G ρ1
def dVar (i : Nat) : Env → Out Vl := fun ρ =>
  match ρ.getD i .non with
  | .non => .bad
  | .dat d => .ok (.sl (.dat d)) ρ
  | _ => .ok (.bor i) ρ
def dC (d : D) : Env → Out Vl := fun ρ => .ok (.sl (.dat d)) ρ
section
variable {ct : CT} {X : Cx} {Wx : WX} {a b e : Expr} {F G : Env → Out Vl} {T U : Env → Out Bool} {pos : Pos} {rest : List Expr}
theorem un_rd {r : V → Hp → VK → Prop} {g : D → Option Res} (hg : UnD X.K ct r g) (σ : L2.St) (H : Hp) (Q : VK) (h : rdE X.K ct Wx (dUn g F) σ H Q) : tUn r (rdE X.K ct Wx F) σ H Q := by
  obtain ⟨W, ρ, rfl, R, h⟩ := h
  refine ⟨W, ρ, rfl, R, EPost.bind h fun vx ρ1 x W1 s1 R1 r1 h1 => ?_⟩
  cases e1 : lookD vx ρ1 with
  | none => simp only [e1, Option.bind_none] at h1; exact h1.elim
  | some d =>
    cases e3 : g d with
    | none => simp only [e1, e3, Option.bind_some] at h1; exact h1.elim
    | some res =>
      simp only [e1, e3, Option.bind_some] at h1
      exact hg W1.I W1.H x d res Q R1.same (r1.rl R1 e1) e3 (R1.res (h1.mono s1))
theorem tru_rl {K : PySem.W.Frag} {I H : Hp} (e : Same I H) {v : V} {b : Bool} : ∀ {d : D}, RL K ct I H v d → truD d = some b → TruV K v H b
  | .none, h, t => by cases t; rw [show v = .non from h]; rfl
  | .bool k, h, t => by
    rw [show v = .bl k from h]
    exact (Option.some.inj t).symm
  | .int i, h, t => by cases t; rw [show v = .int i from h]; rfl
  | .str x, h, t => by
    rw [show v = .str x from h]
    simp only [truD] at t
    split at t
    · rename_i hx; cases t; exact ⟨hx, rfl⟩
    · cases t
  | .list ds, h, t => by
    obtain ⟨p, vs, rfl, q, r⟩ := h
    refine .inl ⟨vs, .of q, ?_⟩
    cases t
    cases r <;> rfl
  | .tuple ds, h, t => by
    obtain ⟨p, vs, rfl, q, r⟩ := h
    refine .inr (.inl ⟨vs, same_t e q, ?_⟩)
    cases t
    cases r <;> rfl
  | .dict _, h, t => by cases t
theorem tru_rd (σ : L2.St) (H : Hp) (Q : Bool → Hp → Prop) (h : rdT X.K ct Wx (dTru F) σ H Q) : rdE X.K ct Wx F σ H fun x H1 => ∃ k, TruV X.K x H1 k ∧ Q k H1 := by
  obtain ⟨W, ρ, rfl, R, h⟩ := h
  refine ⟨W, ρ, rfl, R, EPost.bindT h fun vx ρ1 x W1 s1 R1 r1 h1 => ?_⟩
  cases e1 : lookD vx ρ1 with
  | none => simp only [e1, Option.bind_none] at h1; exact h1.elim
  | some d =>
    cases e3 : truD d with
    | none => simp only [e1, e3, Option.bind_some] at h1; exact h1.elim
    | some k =>
      simp only [e1, e3, Option.bind_some] at h1
      exact ⟨k, tru_rl R1.same (r1.rl R1 e1) e3, h1 W1 s1 R1⟩
/-- an expression of any kind as a test -/
theorem dt_tru (ha : DE ct X Wx a F) (he : ∀ whole, isTrue a X.env whole = (do let v ← whole; standAt a.pos; holding [v] (truthy v)) := by intro _; rfl) : DT ct X Wx a (dTru F) :=
  pt_imp (pt_truth ha he) tru_rd
theorem tst_rd (σ : L2.St) (H : Hp) (Q : Bool → Hp → Prop) (h : rdT X.K ct Wx (dTst F) σ H Q) : rdE X.K ct Wx F σ H fun x H1 => ∃ k, x = .bl k ∧ Q k H1 := by
  obtain ⟨W, ρ, rfl, R, h⟩ := h
  refine ⟨W, ρ, rfl, R, EPost.bindT h fun vx ρ1 x W1 s1 R1 r1 h1 => ?_⟩
  cases e1 : lookD vx ρ1 with
  | none => simp only [e1, Option.bind_none] at h1; exact h1.elim
  | some d =>
    cases e3 : boolD d with
    | none => simp only [e1, e3, Option.bind_some] at h1; exact h1.elim
    | some k =>
      simp only [e1, e3, Option.bind_some] at h1
      cases d with
      | bool c => cases e3; exact ⟨k, r1.rl R1 e1, h1 W1 s1 R1⟩
      | none => cases e3
      | int _ => cases e3
      | str _ => cases e3
      | list _ => cases e3
      | tuple _ => cases e3
      | dict _ => cases e3
/-- a comparison as a test -/
theorem dt_cmp {op : CmpOp} {r : R2} {g : D → D → Option Res} (ho : OpR X (compareOp op) r) (hg : OpD X.K ct r g) (ha : DE ct X Wx a F) (hb : DE ct X Wx b G) (hm : behindInMarks op b = false) : DT ct X Wx (.Compare a [op] [b] pos) (dTst (dOp g F G)) :=
  pt_imp (pt_cmpR ho ha hb hm) fun σ H Q h => op_rd hg σ H _ (tst_rd (F := dOp g F G) σ H Q h)
def DW (ct : CT) (X : Cx) (Wx : WX) (e : Expr) (F : Env → Out Bool) : Prop := PW X e (rdT X.K ct Wx F)
theorem pw_imp {X : Cx} {e : Expr} {t t' : TT} (h : PW X e t) (i : ∀ σ H Q, t' σ H Q → t σ H Q) : PW X e t' := ⟨fun wh pins s σ H Q I q => h.run wh pins s σ H Q I (i σ H Q q)⟩
theorem dt_w (h : DW ct X Wx e T) : DT ct X Wx e T := PW.pt h
theorem dw_and1 (ha : DT ct X Wx a T) : DW ct X Wx (.BoolOp .And [a] pos) T := pw_and1 ha
theorem dw_or1 (ha : DT ct X Wx a T) : DW ct X Wx (.BoolOp .Or [a] pos) T := pw_or1 ha
theorem dw_and (ha : DT ct X Wx a T) (hb : DW ct X Wx (.BoolOp .And (b :: rest) pos) U) : DW ct X Wx (.BoolOp .And (a :: b :: rest) pos) (tAnd' T U) :=
  pw_imp (pw_and ha hb) fun σ H Q h => by
    obtain ⟨W, ρ, rfl, R, h⟩ := h
    refine ⟨W, ρ, rfl, R, TPost.bind h fun b ρ1 W1 s1 R1 h1 => ?_⟩
    cases b with
    | true => exact ⟨W1, ρ1, rfl, R1, TPost.mono (out := U ρ1) h1 s1⟩
    | false => exact h1 W1 s1 R1
theorem dw_or (ha : DT ct X Wx a T) (hb : DW ct X Wx (.BoolOp .Or (b :: rest) pos) U) : DW ct X Wx (.BoolOp .Or (a :: b :: rest) pos) (tOr' T U) :=
  pw_imp (pw_or ha hb) fun σ H Q h => by
    obtain ⟨W, ρ, rfl, R, h⟩ := h
    refine ⟨W, ρ, rfl, R, TPost.bind h fun b ρ1 W1 s1 R1 h1 => ?_⟩
    cases b with
    | false => exact ⟨W1, ρ1, rfl, R1, TPost.mono (out := U ρ1) h1 s1⟩
    | true => exact h1 W1 s1 R1
theorem dt_not (ha : DT ct X Wx a T) : DT ct X Wx (.UnaryOp .Not a pos) (tNot' T) :=
  pt_imp (pt_not ha) fun σ H Q h => by
    obtain ⟨W, ρ, rfl, R, h⟩ := h
    exact ⟨W, ρ, rfl, R, TPost.bind h fun b ρ1 W1 s1 R1 h1 => h1 W1 s1 R1⟩
theorem bool_rl {K : PySem.W.Frag} {I H : Hp} {v : V} {d : D} {b : Bool} (h : RL K ct I H v d) (t : boolD d = some b) : v = .bl b := by
  cases d with
  | bool c => cases t; exact h
  | none => cases t
  | int _ => cases t
  | str _ => cases t
  | list _ => cases t
  | tuple _ => cases t
  | dict _ => cases t
theorem de_one {op} (h : DE ct X Wx a F) : DE ct X Wx (.BoolOp op [a] pos) F := pe_one h
theorem de_and (ha : DE ct X Wx a F) (hb : DE ct X Wx (.BoolOp .And (b :: rest) pos) G) : DE ct X Wx (.BoolOp .And (a :: b :: rest) pos) (dAnd F G) :=
  pe_imp (pe_and ha hb) fun σ H Q h => by
    obtain ⟨W, ρ, rfl, R, h⟩ := h
    refine ⟨W, ρ, rfl, R, EPost.bind h fun vx ρ1 x W1 s1 R1 r1 h1 => ?_⟩
    cases e1 : (lookD vx ρ1).bind boolD with
    | none => simp only [e1] at h1; exact h1.elim
    | some k =>
      simp only [e1] at h1
      obtain ⟨d, e2, e3⟩ := Option.bind_eq_some_iff.mp e1
      refine ⟨k, bool_rl (r1.rl R1 e2) e3, ?_⟩
      cases k with
      | true => exact ⟨W1, ρ1, rfl, R1, EPost.mono (out := G ρ1) h1 s1⟩
      | false => exact h1 _ W1 s1 R1 (.dat (.bl false))
theorem de_or (ha : DE ct X Wx a F) (hb : DE ct X Wx (.BoolOp .Or (b :: rest) pos) G) : DE ct X Wx (.BoolOp .Or (a :: b :: rest) pos) (dOr F G) :=
  pe_imp (pe_or ha hb) fun σ H Q h => by
    obtain ⟨W, ρ, rfl, R, h⟩ := h
    refine ⟨W, ρ, rfl, R, EPost.bind h fun vx ρ1 x W1 s1 R1 r1 h1 => ?_⟩
    cases e1 : (lookD vx ρ1).bind boolD with
    | none => simp only [e1] at h1; exact h1.elim
    | some k =>
      simp only [e1] at h1
      obtain ⟨d, e2, e3⟩ := Option.bind_eq_some_iff.mp e1
      refine ⟨k, bool_rl (r1.rl R1 e2) e3, ?_⟩
      cases k with
      | false => exact ⟨W1, ρ1, rfl, R1, EPost.mono (out := G ρ1) h1 s1⟩
      | true => exact h1 _ W1 s1 R1 (.dat (.bl true))
theorem de_not (ha : DE ct X Wx a F) : DE ct X Wx (.UnaryOp .Not a pos) (dNot F) :=
  pe_imp (pe_notT ha) fun σ H Q h => by
    obtain ⟨W, ρ, rfl, R, h⟩ := h
    refine ⟨W, ρ, rfl, R, EPost.bind h fun vx ρ1 x W1 s1 R1 r1 h1 => ?_⟩
    cases e1 : (lookD vx ρ1).bind truD with
    | none => simp only [e1] at h1; exact h1.elim
    | some k =>
      simp only [e1] at h1
      obtain ⟨d, e2, e3⟩ := Option.bind_eq_some_iff.mp e1
      exact ⟨k, tru_rl R1.same (r1.rl R1 e2) e3, h1 _ W1 s1 R1 (.dat (.bl _))⟩
theorem de_if {c : Expr} (hc : DT ct X Wx c T) (ha : DE ct X Wx a F) (hb : DE ct X Wx b G) : DE ct X Wx (.IfExp c a b pos) (dIf T F G) :=
  pe_imp (pe_ifExp hc ha hb) fun σ H Q h => by
    obtain ⟨W, ρ, rfl, R, h⟩ := h
    refine ⟨W, ρ, rfl, R, TPost.bindE h fun b ρ1 W1 s1 R1 h1 => ?_⟩
    cases b with
    | true => exact ⟨W1, ρ1, rfl, R1, EPost.mono (out := F ρ1) h1 s1⟩
    | false => exact ⟨W1, ρ1, rfl, R1, EPost.mono (out := G ρ1) h1 s1⟩
theorem de_var {i : Nat} {x : Str} (hN : X.N[i]? = some x := by rfl) (hv : Vis X.env.scope x := by first | exact Or.inl rfl | exact Or.inr (Or.inl rfl) | exact Or.inr (Or.inr rfl)) (hd : (x == ("__debug__" : Str)) = false := by decide)
    (hcd : (x == ("__classdict__" : Str)) = false := by decide) : DE ct X Wx (.Name x pos) (dVar i) :=
  pe_imp (pe_var hN hv hd hcd) fun σ H Q h => by
    obtain ⟨W, ρ, rfl, R, h⟩ := h
    cases es : ρ.getD i .non with
    | non => simp only [dVar, es] at h; exact h.elim
    | dat d =>
      simp only [dVar, es] at h
      obtain ⟨v, as, h1, h2, h3⟩ := R.at es nofun
      exact ⟨v, h1, h v W (.refl _) R (.dat h3.2)⟩
    | own xs =>
      simp only [dVar, es] at h
      obtain ⟨v, as, h1, h2, h3⟩ := R.at es nofun
      exact ⟨v, h1, h v W (.refl _) R h1⟩
    | obj c fs =>
      simp only [dVar, es] at h
      obtain ⟨v, as, h1, h2, h3⟩ := R.at es nofun
      exact ⟨v, h1, h v W (.refl _) R h1⟩
    | exn er =>
      simp only [dVar, es] at h
      obtain ⟨v, as, h1, h2, h3⟩ := R.at es nofun
      exact ⟨v, h1, h v W (.refl _) R h1⟩
theorem c_rd {v : V} {d : D} (hr : ∀ I, RV X.K ct I v d) (σ : L2.St) (H : Hp) (Q : VK) (h : rdE X.K ct Wx (dC d) σ H Q) : tC v σ H Q := by
  obtain ⟨W, ρ, rfl, R, h⟩ := h
  exact h v W (.refl _) R (.dat (hr _))
theorem de_int {i : Int} {j} : DE ct X Wx (.Constant (.int i) j pos) (dC (.int i)) := pe_imp pe_int (c_rd fun _ => .int i)
theorem de_bl {b : Bool} {j} : DE ct X Wx (.Constant (.bool b) j pos) (dC (.bool b)) := pe_imp pe_bl (c_rd fun _ => .bl b)
theorem de_non {j} : DE ct X Wx (.Constant .none j pos) (dC .none) := pe_imp pe_non (c_rd fun _ => .non)
theorem de_str {x : Str} {j} : DE ct X Wx (.Constant (.str x) j pos) (dC (.str x)) := pe_imp pe_str (c_rd fun _ => .str x)
/-- an int of the module's own -/
theorem de_globI {x : Str} {i : Int} {u : Value} (hg : Gl X x) (hm : X.mg x = some u) (r : RelV (.int i) u) (hd : (x == ("__debug__" : Str)) = false := by decide) : DE ct X Wx (.Name x pos) (dC (.int i)) :=
  pe_imp (pe_glob hg hm r hd) (c_rd fun _ => .int i)
end
/-! ### displays; a value that comes to stand -/
def frz (vl : Vl) (ρ : Env) : Out D :=
  match vl with
  | .sl s => match s.look with
    | some d => .ok d ρ
    | none => .bad
  | .bor i => match (ρ.getD i .non).look with
    | some d => .ok d (ρ.set i (.dat d))
    | none => .bad
def dFz (F : Env → Out Vl) : Env → Out D := fun ρ => (F ρ).bind frz
section
variable {K : PySem.W.Frag} {ct : CT} {W0 W W1 W2 : Wd} {σ : L2.St} {ρ ρ' : Env} {Wx : WX}
theorem flatten_set_sub {w : List (List Addr)} {i : Nat} {a : Addr} (h : a ∈ (w.set i []).flatten) : a ∈ w.flatten := by
  obtain ⟨l, hl, ha⟩ := List.mem_flatten.mp h
  rcases List.mem_or_eq_of_mem_set hl with h1 | h1
  · exact List.mem_flatten.mpr ⟨l, h1, ha⟩
  · rw [h1] at ha; simp at ha
theorem nodup_set : ∀ {w : List (List Addr)} (i : Nat) {as : List Addr}, w.flatten.Nodup → as.Nodup → (∀ a ∈ as, a ∉ (w.set i []).flatten) → (w.set i as).flatten.Nodup
  | [], i, as, h, _, _ => by simp
  | l :: w, 0, as, h, ha, hd => by
    rw [List.flatten_cons, List.nodup_append] at h
    show (as :: w).flatten.Nodup
    rw [List.flatten_cons, List.nodup_append]
    refine ⟨ha, h.2.1, fun a m b m' e => ?_⟩
    subst e
    exact hd a m (by show a ∈ ([] :: w).flatten; simpa using m')
  | l :: w, i + 1, as, h, ha, hd => by
    rw [List.flatten_cons, List.nodup_append] at h
    show (l :: w.set i as).flatten.Nodup
    rw [List.flatten_cons, List.nodup_append]
    refine ⟨h.1, nodup_set i h.2.1 ha fun a m m' => hd a m (by show a ∈ (l :: w.set i []).flatten; rw [List.flatten_cons]; exact List.mem_append_right _ m'), fun a m b m' e => ?_⟩
    subst e
    obtain ⟨l', hl', ha'⟩ := List.mem_flatten.mp m'
    rcases List.mem_or_eq_of_mem_set hl' with h1 | h1
    · exact h.2.2 a m a (List.mem_flatten.mpr ⟨l', h1, ha'⟩) rfl
    · rw [h1] at ha'
      exact hd a ha' (by show a ∈ (l :: w.set i []).flatten; rw [List.flatten_cons]; exact List.mem_append_left _ m)
theorem mem_at {w : List (List Addr)} {i : Nat} {as : List Addr} {a : Addr} (h : w[i]? = some as) (m : a ∈ as) : a ∈ w.flatten :=
  List.mem_flatten.mpr ⟨as, List.mem_of_getElem? h, m⟩
theorem notin_set : ∀ {w : List (List Addr)} {i : Nat} {as : List Addr}, w.flatten.Nodup → w[i]? = some as → as.Nodup ∧ ∀ a ∈ as, a ∉ (w.set i []).flatten
  | [], i, as, h, e => by simp at e
  | l :: w, 0, as, h, e => by
    cases e
    rw [List.flatten_cons, List.nodup_append] at h
    refine ⟨h.1, fun a m m' => ?_⟩
    have m' : a ∈ ([] :: w).flatten := m'
    exact h.2.2 a m a (by simpa using m') rfl
  | l :: w, i + 1, as, h, e => by
    rw [List.flatten_cons, List.nodup_append] at h
    have e : w[i]? = some as := e
    obtain ⟨n, q⟩ := notin_set h.2.1 e
    refine ⟨n, fun a m m' => ?_⟩
    have m' : a ∈ (l :: w.set i []).flatten := m'
    rw [List.flatten_cons, List.mem_append] at m'
    rcases m' with m' | m'
    · exact h.2.2 a m' a (mem_at e m) rfl
    · exact q a m m'
/-- what is owned at as comes to stand -/
theorem stand {v : V} {as : List Addr} {s : Sl} {d : D} {I H : Hp} (e : Same I H) (h : RSl K ct I H v as s) (hl : s.look = some d) :
    ∃ I', Same I I' ∧ Same I' H ∧ RV K ct I' v d ∧ ∀ b o, I' b = some o → I b = some o ∨ b ∈ as := by
  cases s with
  | non => cases hl
  | dat x => cases hl; exact ⟨I, .refl _, e, h.2, fun _ _ h => .inl h⟩
  | own xs =>
    cases hl
    obtain ⟨a, vs, rfl, rfl, n, ha, r⟩ := h
    have s1 : Same I (upd I a (.lst vs)) := fun b o h => by rw [upd_ne (fun q => by rw [q, n] at h; cases h)]; exact h
    refine ⟨upd I a (.lst vs), s1, fun b o h => ?_, .lst upd_same (r.mono s1), fun b o h => ?_⟩
    · by_cases q : b = a
      · rw [q, upd_same] at h; rw [q]; cases h; exact ha
      · rw [upd_ne q] at h; exact e _ _ h
    · by_cases q : b = a
      · exact .inr (by simp [q])
      · rw [upd_ne q] at h; exact .inl h
  | obj c fs =>
    cases hl
    obtain ⟨a, dx, gs, rfl, rfl, n, n', ha, hd, r⟩ := h
    have hne : a ≠ dx := fun q => by
      rw [q, hd] at ha; cases ha
    have s1 : Same I (upd (upd I a (.ins (ct.cls c) dx gs)) dx (.own a)) := fun b o h => by
      rw [upd_ne (fun q => by rw [q, n'] at h; cases h), upd_ne (fun q => by rw [q, n] at h; cases h)]; exact h
    refine ⟨_, s1, fun b o h => ?_, .ins (dx := dx) (by rw [upd_ne hne, upd_same]) upd_same (r.mono s1), fun b o h => ?_⟩
    · by_cases q : b = dx
      · rw [q, upd_same] at h; rw [q]; cases h; exact hd
      · rw [upd_ne q] at h
        by_cases q' : b = a
        · rw [q', upd_same] at h; rw [q']; cases h; exact ha
        · rw [upd_ne q'] at h; exact e _ _ h
    · by_cases q : b = dx
      · exact .inr (by simp [q])
      · rw [upd_ne q] at h
        by_cases q' : b = a
        · exact .inr (by simp [q'])
        · rw [upd_ne q'] at h; exact .inl h
  | exn er => cases hl
theorem frz_ok {v : V} {vl : Vl} {d : D} (s : Wst W0 W) (R : Rep K ct W σ ρ) (r : RVl K ct W0 W σ v vl) (h : frz vl ρ = .ok d ρ') :
    ∃ W', W'.H = W.H ∧ Wst W0 W' ∧ Rep K ct W' σ ρ' ∧ RV K ct W'.I v d := by
  cases vl with
  | sl sl =>
    obtain ⟨n, as, q, nd, f⟩ := r
    cases hl : sl.look with
    | none => simp only [frz, hl] at h; cases h
    | some d' =>
      simp only [frz, hl] at h; cases h
      obtain ⟨I', s1, s2, rv, fr⟩ := stand R.same q hl
      refine ⟨{ W with I := I' }, rfl, ⟨s.same.trans s1, s.frame, s.ofr, fun b o h => ?_, s.alive⟩, ⟨s2, R.reps.mono s1 (fun b m hn => ?_) (fun _ _ _ h => h), R.nd⟩, rv⟩
      · rcases fr b o h with h1 | h1
        · exact s.ifr b o h1
        · exact (f b h1).2.elim (fun q => .inr (.inr q)) fun q => .inr (.inl q)
      · show I' b = none
        cases e : I' b with
        | none => rfl
        | some o =>
          rcases fr b o e with h1 | h1
          · rw [hn] at h1; cases h1
          · exact absurd m (f b h1).1
  | bor i =>
    cases hl : (ρ.getD i .non).look with
    | none => simp only [frz, hl] at h; cases h
    | some d' =>
      simp only [frz, hl] at h; cases h
      have hnn : ρ.getD i .non ≠ .non := fun e => by rw [e] at hl; cases hl
      obtain ⟨u, as, h1, h2, h3⟩ := R.at rfl hnn
      have eu : u = v := by
        have r' : σ[i]? = some (some v) := r
        rw [h1] at r'; cases r'; rfl
      subst eu
      obtain ⟨I', s1, s2, rv, fr⟩ := stand R.same h3 hl
      obtain ⟨nd, ns⟩ := notin_set R.nd h2
      have Rn : Reps K ct W.I W.H (σ.set i none) (ρ.set i .non) (W.w.set i []) := R.reps.set i (o := none) (as := []) (s := .non) rfl
      have Rm := Rn.mono (I' := I') (H' := W.H) s1 (fun b m hn => by
        cases e : I' b with
        | none => rfl
        | some o =>
          rcases fr b o e with q | q
          · rw [hn] at q; cases q
          · exact absurd m (ns b q)) (fun _ _ _ h => h)
      have Rf := Rm.set i (o := some u) (as := []) (s := .dat d) ⟨u, rfl, rfl, rv⟩
      rw [List.set_set, List.set_set, List.set_set] at Rf
      have eσ : σ.set i (some u) = σ := by
        have hi : i < σ.length := by
          rcases Nat.lt_or_ge i σ.length with q | q
          · exact q
          · rw [List.getElem?_eq_none q] at h1; cases h1
        rw [List.getElem?_eq_getElem hi] at h1
        have h1' := Option.some.inj h1
        exact List.ext_getElem (by simp) fun j a b => by
          rw [List.getElem_set]; split
          · rename_i q; subst q; exact h1'.symm
          · rfl
      rw [eσ] at Rf
      refine ⟨⟨I', W.H, W.w.set i []⟩, rfl, ⟨s.same.trans s1, s.frame, fun b m => s.ofr b (flatten_set_sub m), fun b o h => ?_, s.alive⟩, ⟨s2, Rf, nodup_set i R.nd .nil fun a m => by simp at m⟩, rv⟩
      rcases fr b o h with q | q
      · exact s.ifr b o q
      · rcases s.ofr b (mem_at h2 q) with q' | q'
        · exact .inr (.inl q')
        · exact .inr (.inr q')
end
end DL
end
section
set_option Elab.async false
set_option linter.all false
set_option maxRecDepth 100000
namespace DL
open PySem PySem.Spec PyProof.Rows L2
/-! ### the operations on data -/
def size1 (n : Nat) : Bool := decide (n ≤ sizeLine)
def gAdd : D → D → Option Res
  | .int i, .int j => some (.d (.int (i + j)))
  | .str i, .str j => if i.length + j.length ≤ sizeLine then some (.d (.str (i ++ j))) else none
  | .tuple xs, .tuple ys => if xs.length + ys.length ≤ sizeLine then some (.tup (xs ++ ys)) else none
  | .list xs, .list ys => if xs.length + ys.length ≤ sizeLine then some (.lst (xs ++ ys)) else none
  | _, _ => none
def gMinus : D → D → Option Res
  | .int i, .int j => some (.d (.int (i - j)))
  | _, _ => none
def gMul : D → D → Option Res
  | .int i, .int j => if (-(2 ^ 64) < i ∧ i < 2 ^ 64) ∨ (-(2 ^ 64) < j ∧ j < 2 ^ 64) then some (.d (.int (i * j))) else none
  | .tuple xs, .int k => if xs ≠ [] ∧ 2 ≤ k ∧ k ≤ 1000 ∧ xs.length ≤ 1000 then some (.tup (List.replicate k.toNat xs).flatten) else none
  | _, _ => none
def gFdiv : D → D → Option Res
  | .int i, .int j => if 0 < j ∧ j < 1073741824 then some (.d (.int (i / j))) else none
  | _, _ => none
def gMod : D → D → Option Res
  | .int i, .int j => if 0 < j then some (.d (.int (i % j))) else none
  | _, _ => none
def gPow : D → D → Option Res
  | .int i, .int j => if 0 ≤ j ∧ j ≤ 1000000 ∧ i.natAbs < 2 ^ 64 then some (.d (.int (i ^ j.toNat))) else none
  | _, _ => none
def gCmpI (p : Int → Int → Bool) : D → D → Option Res
  | .int i, .int j => some (.d (.bool (p i j)))
  | _, _ => none
def fit (d e : D) : Bool := d.plain && e.plain && decide (min d.depth e.depth ≤ 60)
def gEq (d e : D) : Option Res := if fit d e then some (.d (.bool (PyData.eqv d e))) else none
def gNe (d e : D) : Option Res := if fit d e then some (.d (.bool (!PyData.eqv d e))) else none
def fitIn (d : D) (es : List D) : Bool := d.plain && PyData.plainAll es && decide (min (PyData.depthAll es) d.depth ≤ 60)
def gIn : D → D → Option Res
  | d, .list es => if fitIn d es then some (.d (.bool (es.any fun z => PyData.eqv z d))) else none
  | d, .tuple es => if fitIn d es then some (.d (.bool (es.any fun z => PyData.eqv z d))) else none
  | _, _ => none
def gNotIn : D → D → Option Res
  | d, .list es => if fitIn d es then some (.d (.bool (!es.any fun z => PyData.eqv z d))) else none
  | d, .tuple es => if fitIn d es then some (.d (.bool (!es.any fun z => PyData.eqv z d))) else none
  | _, _ => none
def isN : D → Bool
  | .none => true
  | _ => false
/-- is True, is False, is None -/
def gIs : D → D → Option Res
  | .bool a, .bool b => some (.d (.bool (decide (a = b))))
  | d, .none => some (.d (.bool (isN d)))
  | _, _ => none
def gIsNot : D → D → Option Res
  | .bool a, .bool b => some (.d (.bool (!decide (a = b))))
  | d, .none => some (.d (.bool (!isN d)))
  | _, _ => none
def gIx : D → D → Option Res
  | .list xs, .int i => (atI xs i).map .d
  | .tuple xs, .int i => (atI xs i).map .d
  | .str z, .int i => if z.length ≤ sizeLine then (atI z.cps.toList i).map fun c => .d (.str ⟨#[c]⟩) else none
  | .dict kvs, .int i => match kvs with
    | [(.bool true, .list xs)] => (atI xs i).map .d
    | _ => none
  | _, _ => none
def rAddA (K : PySem.W.Frag) : R2 := fun x y H Q => (rI0 fun i j => .int (i + j)) x y H Q ∨ (∃ i j, x = .str i ∧ y = .str j ∧ i.length + j.length ≤ sizeLine ∧ Q (.str (i ++ j)) H) ∨ rCatA K x y H Q ∨ rCat x y H Q
def rMulA (K : PySem.W.Frag) : R2 := fun x y H Q => (rI CMul fun i j => .int (i * j)) x y H Q ∨ rRepT K x y H Q
def rEqP (K : PySem.W.Frag) : R2 := fun x y H Q => ∃ d e, Dp K H x d ∧ Dp K H y e ∧ fit d e = true ∧ Q (.bl (PyData.eqv d e)) H
def rNeP (K : PySem.W.Frag) : R2 := fun x y H Q => ∃ d e, Dp K H x d ∧ Dp K H y e ∧ fit d e = true ∧ Q (.bl (!PyData.eqv d e)) H
def rInP (K : PySem.W.Frag) : R2 := fun x y H Q => ∃ d es, Dp K H x d ∧ (Dp K H y (.list es) ∨ Dp K H y (.tuple es)) ∧ fitIn d es = true ∧ Q (.bl (es.any fun z => PyData.eqv z d)) H
def rNotInP (K : PySem.W.Frag) : R2 := fun x y H Q => ∃ d es, Dp K H x d ∧ (Dp K H y (.list es) ∨ Dp K H y (.tuple es)) ∧ fitIn d es = true ∧ Q (.bl (!es.any fun z => PyData.eqv z d)) H
def rIsA : R2 := fun x y H Q => rIsB x y H Q ∨ (y = .non ∧ Q (.bl (decide (x = .non))) H)
def rIsNotA : R2 := fun x y H Q => rNotB x y H Q ∨ (y = .non ∧ Q (.bl (!decide (x = .non))) H)
section
variable {X : Cx}
theorem fit_of {d e : D} (h : fit d e = true) : d.plain = true ∧ e.plain = true ∧ min d.depth e.depth ≤ 60 := by
  simpa [fit, and_assoc] using h
theorem fitIn_of {d : D} {es : List D} (h : fitIn d es = true) : d.plain = true ∧ PyData.plainAll es = true ∧ min (PyData.depthAll es) d.depth ≤ 60 := by
  simpa [fitIn, and_assoc] using h
theorem op_addA : OpR X (binaryOp .Add) (rAddA X.K) := OpR.or op_add (OpR.or op_add_str (OpR.or op_catA op_cat))
theorem op_mulA : OpR X (binaryOp .Mult) (rMulA X.K) := OpR.or op_mul op_repT
theorem op_eqP (hu : X.A.units + 64 < cLine) : OpR X (compareOp .Eq) (rEqP X.K) := by
  intro pins s σ H x y v u Q I rx ry h
  obtain ⟨d, e, dx, dy, f, q⟩ := h
  obtain ⟨f1, f2, f3⟩ := fit_of f
  obtain ⟨as, r1⟩ := Dp.reads I d x v dx rx
  obtain ⟨bs, r2⟩ := Dp.reads I e y u dy ry
  exact SeqAt.eq_plain r1 r2 f1 f2 (by omega) (fin_bl I q rfl)
theorem op_neP (hu : X.A.units + 64 < cLine) : OpR X (compareOp .NotEq) (rNeP X.K) := by
  intro pins s σ H x y v u Q I rx ry h
  obtain ⟨d, e, dx, dy, f, q⟩ := h
  obtain ⟨f1, f2, f3⟩ := fit_of f
  obtain ⟨as, r1⟩ := Dp.reads I d x v dx rx
  obtain ⟨bs, r2⟩ := Dp.reads I e y u dy ry
  exact SeqAt.ne_plain r1 r2 f1 f2 (by omega) (fin_bl I q rfl)
theorem op_inP (hu : X.A.units + 64 < cLine) : OpR X (compareOp .In) (rInP X.K) := by
  intro pins s σ H x y v u Q I rx ry h
  obtain ⟨d, es, dx, dy, f, q⟩ := h
  obtain ⟨f1, f2, f3⟩ := fitIn_of f
  obtain ⟨as, r1⟩ := Dp.reads I d x v dx rx
  rcases dy with dy | dy
  · obtain ⟨bs, r2⟩ := Dp.reads I _ y u dy ry
    exact SeqAt.in_list_data r2 r1 f2 f1 (by omega) (fin_bl I q rfl)
  · obtain ⟨bs, r2⟩ := Dp.reads I _ y u dy ry
    exact SeqAt.in_tuple_data r2 r1 f2 f1 (by omega) (fin_bl I q rfl)
theorem op_notInP (hu : X.A.units + 64 < cLine) : OpR X (compareOp .NotIn) (rNotInP X.K) := by
  intro pins s σ H x y v u Q I rx ry h
  obtain ⟨d, es, dx, dy, f, q⟩ := h
  obtain ⟨f1, f2, f3⟩ := fitIn_of f
  obtain ⟨as, r1⟩ := Dp.reads I d x v dx rx
  rcases dy with dy | dy
  · obtain ⟨bs, r2⟩ := Dp.reads I _ y u dy ry
    exact SeqAt.notIn_list_data r2 r1 f2 f1 (by omega) (fin_bl I q rfl)
  · obtain ⟨bs, r2⟩ := Dp.reads I _ y u dy ry
    exact SeqAt.notIn_tuple_data r2 r1 f2 f1 (by omega) (fin_bl I q rfl)
theorem op_isA : OpR X (compareOp .Is) rIsA := OpR.or op_isBl op_isN
theorem op_isNotA : OpR X (compareOp .IsNot) rIsNotA := OpR.or op_notBl op_notN
end
section
variable {K : PySem.W.Frag} {ct : CT}
theorem RL.int {I H : Hp} {v : V} {i : Int} (h : RL K ct I H v (.int i)) : v = .int i := h
theorem opD_add : OpD K ct (rAddA K) gAdd := by
  intro I H x y d e res Q hs hx hy hg q
  unfold gAdd at hg
  split at hg
  · cases hg
    exact .inl ⟨_, _, hx, hy, q _ (.int _)⟩
  · split at hg
    · cases hg
      exact .inr (.inl ⟨_, _, hx, hy, by assumption, q _ (.str _)⟩)
    · cases hg
  · split at hg
    · cases hg
      rename_i xs ys hz
      obtain ⟨a, vs, rfl, h1, r1⟩ := hx
      obtain ⟨b, ws, rfl, h2, r2⟩ := hy
      refine .inr (.inr (.inl ⟨a, b, vs, ws, rfl, rfl, same_t hs h1, same_t hs h2, by rw [r1.length, r2.length]; exact hz, fun e => ?_, fun _ e => ?_, fun _ _ p hp => q.2 p _ hp (r1.append r2)⟩))
      · subst e; cases r1; exact q.1 _ (.tup h2 r2)
      · subst e; cases r2; exact q.1 _ (.tup h1 (by rw [List.append_nil]; exact r1))
    · cases hg
  · split at hg
    · cases hg
      rename_i xs ys hz
      obtain ⟨a, vs, rfl, h1, r1⟩ := hx
      obtain ⟨b, ws, rfl, h2, r2⟩ := hy
      exact .inr (.inr (.inr ⟨a, b, vs, ws, rfl, rfl, h1, h2, by rw [r1.length, r2.length]; exact hz, fun p hp => q p _ hp (r1.append r2)⟩))
    · cases hg
  · cases hg
theorem opD_sub : OpD K ct (rI0 fun i j => .int (i - j)) gMinus := by
  intro I H x y d e res Q hs hx hy hg q
  unfold gMinus at hg
  split at hg
  · cases hg; exact ⟨_, _, hx, hy, q _ (.int _)⟩
  · cases hg
theorem RVs.rep {I : Hp} {vs : List V} {ds : List D} (h : RVs K ct I vs ds) : ∀ k : Nat, RVs K ct I (List.replicate k vs).flatten (List.replicate k ds).flatten
  | 0 => .nil
  | k + 1 => by
    rw [List.replicate_succ, List.replicate_succ, List.flatten_cons, List.flatten_cons]
    exact h.append (RVs.rep h k)
theorem opD_mul : OpD K ct (rMulA K) gMul := by
  intro I H x y d e res Q hs hx hy hg q
  unfold gMul at hg
  split at hg
  · split at hg
    · cases hg; exact .inl ⟨_, _, hx, hy, by assumption, q _ (.int _)⟩
    · cases hg
  · split at hg
    · cases hg
      rename_i xs k hz
      obtain ⟨a, vs, rfl, h1, r1⟩ := hx
      refine .inr ⟨a, k, vs, rfl, hy, same_t hs h1, fun e => hz.1 (by subst e; cases r1; rfl), hz.2.1, hz.2.2.1, by rw [r1.length]; exact hz.2.2.2, fun p hp => q.2 p _ hp (r1.rep _)⟩
    · cases hg
  · cases hg
theorem opD_fdiv : OpD K ct (rI CDiv fun i j => .int (i / j)) gFdiv := by
  intro I H x y d e res Q hs hx hy hg q
  unfold gFdiv at hg
  split at hg
  · split at hg
    · cases hg; exact ⟨_, _, hx, hy, by assumption, q _ (.int _)⟩
    · cases hg
  · cases hg
theorem opD_mod : OpD K ct (rI (fun _ j => 0 < j) fun i j => .int (i % j)) gMod := by
  intro I H x y d e res Q hs hx hy hg q
  unfold gMod at hg
  split at hg
  · split at hg
    · cases hg; exact ⟨_, _, hx, hy, by assumption, q _ (.int _)⟩
    · cases hg
  · cases hg
theorem opD_pow : OpD K ct (rI CPow fun i j => .int (i ^ j.toNat)) gPow := by
  intro I H x y d e res Q hs hx hy hg q
  unfold gPow at hg
  split at hg
  · split at hg
    · cases hg; exact ⟨_, _, hx, hy, by assumption, q _ (.int _)⟩
    · cases hg
  · cases hg
theorem opD_cmp {p : Int → Int → Bool} : OpD K ct (rI0 fun i j => .bl (p i j)) (gCmpI p) := by
  intro I H x y d e res Q hs hx hy hg q
  unfold gCmpI at hg
  split at hg
  · cases hg; exact ⟨_, _, hx, hy, q _ (.bl _)⟩
  · cases hg
theorem opD_eq : OpD K ct (rEqP K) gEq := by
  intro I H x y d e res Q hs hx hy hg q
  unfold gEq at hg
  split at hg
  · cases hg
    rename_i f
    obtain ⟨f1, f2, f3⟩ := fit_of f
    exact ⟨d, e, (hx.rv hs).dp (.refl _) f1, (hy.rv hs).dp (.refl _) f2, f, q _ (.bl _)⟩
  · cases hg
theorem opD_ne : OpD K ct (rNeP K) gNe := by
  intro I H x y d e res Q hs hx hy hg q
  unfold gNe at hg
  split at hg
  · cases hg
    rename_i f
    obtain ⟨f1, f2, f3⟩ := fit_of f
    exact ⟨d, e, (hx.rv hs).dp (.refl _) f1, (hy.rv hs).dp (.refl _) f2, f, q _ (.bl _)⟩
  · cases hg
theorem opD_in : OpD K ct (rInP K) gIn := by
  intro I H x y d e res Q hs hx hy hg q
  unfold gIn at hg
  split at hg
  · split at hg
    · cases hg
      rename_i es f
      obtain ⟨f1, f2, f3⟩ := fitIn_of f
      exact ⟨d, es, (hx.rv hs).dp (.refl _) f1, .inl ((hy.rv hs).dp (.refl _) (by simpa [PyData.plain] using f2)), f, q _ (.bl _)⟩
    · cases hg
  · split at hg
    · cases hg
      rename_i es f
      obtain ⟨f1, f2, f3⟩ := fitIn_of f
      exact ⟨d, es, (hx.rv hs).dp (.refl _) f1, .inr ((hy.rv hs).dp (.refl _) (by simpa [PyData.plain] using f2)), f, q _ (.bl _)⟩
    · cases hg
  · cases hg
theorem opD_notIn : OpD K ct (rNotInP K) gNotIn := by
  intro I H x y d e res Q hs hx hy hg q
  unfold gNotIn at hg
  split at hg
  · split at hg
    · cases hg
      rename_i es f
      obtain ⟨f1, f2, f3⟩ := fitIn_of f
      exact ⟨d, es, (hx.rv hs).dp (.refl _) f1, .inl ((hy.rv hs).dp (.refl _) (by simpa [PyData.plain] using f2)), f, q _ (.bl _)⟩
    · cases hg
  · split at hg
    · cases hg
      rename_i es f
      obtain ⟨f1, f2, f3⟩ := fitIn_of f
      exact ⟨d, es, (hx.rv hs).dp (.refl _) f1, .inr ((hy.rv hs).dp (.refl _) (by simpa [PyData.plain] using f2)), f, q _ (.bl _)⟩
    · cases hg
  · cases hg
theorem rl_non {I H : Hp} {v : V} {d : D} (h : RL K ct I H v d) : decide (v = .non) = isN d := by
  cases d with
  | none => rw [show v = .non from h]; rfl
  | bool b => rw [show v = .bl b from h]; rfl
  | int b => rw [show v = .int b from h]; rfl
  | str b => rw [show v = .str b from h]; rfl
  | list b => obtain ⟨a, vs, rfl, _⟩ := h; rfl
  | tuple b => obtain ⟨a, vs, rfl, _⟩ := h; rfl
  | dict b =>
    rcases h with ⟨c, ds, a, dx, fs, q, rfl, _⟩ | ⟨ds, a, vs, q, rfl, _⟩ | ⟨c, ds, a, dx, fs, q, rfl, _⟩ <;> rfl
theorem opD_is : OpD K ct rIsA gIs := by
  intro I H x y d e res Q hs hx hy hg q
  unfold gIs at hg
  split at hg
  · cases hg; exact .inl ⟨_, _, hx, hy, q _ (.bl _)⟩
  · cases hg
    refine .inr ⟨hy, ?_⟩
    rw [rl_non hx]; exact q _ (.bl _)
  · cases hg
theorem opD_isNot : OpD K ct rIsNotA gIsNot := by
  intro I H x y d e res Q hs hx hy hg q
  unfold gIsNot at hg
  split at hg
  · cases hg; exact .inl ⟨_, _, hx, hy, q _ (.bl _)⟩
  · cases hg
    refine .inr ⟨hy, ?_⟩
    rw [rl_non hx]; exact q _ (.bl _)
  · cases hg
theorem RVs.atI {I : Hp} {vs : List V} {ds : List D} {i : Int} {d : D} (h : RVs K ct I vs ds) (e : atI ds i = some d) : ∃ v, L2.atI vs i = some v ∧ RV K ct I v d := by
  unfold L2.atI at e ⊢
  rw [h.length]
  cases q : ixN ds.length i with
  | none => rw [q] at e; cases e
  | some j => rw [q] at e; exact h.get e
theorem opD_ix : OpD K ct (rIx K) gIx := by
  intro I H x y d e res Q hs hx hy hg q
  unfold gIx at hg
  split at hg
  · obtain ⟨z, hz, rfl⟩ := Option.map_eq_some_iff.mp hg
    obtain ⟨a, vs, rfl, h1, r1⟩ := hx
    obtain ⟨v, hv, rv⟩ := r1.atI hz
    exact .inl ⟨a, vs, _, v, rfl, hy, .of h1, hv, q v rv⟩
  · obtain ⟨z, hz, rfl⟩ := Option.map_eq_some_iff.mp hg
    obtain ⟨a, vs, rfl, h1, r1⟩ := hx
    obtain ⟨v, hv, rv⟩ := r1.atI hz
    exact .inr (.inl ⟨a, vs, _, v, rfl, hy, same_t hs h1, hv, q v rv⟩)
  · split at hg
    · obtain ⟨c, hc, rfl⟩ := Option.map_eq_some_iff.mp hg
      exact .inr (.inr ⟨_, _, c, hx, hy, by assumption, hc, q _ (.str _)⟩)
    · cases hg
  · split at hg
    · obtain ⟨z, hz, rfl⟩ := Option.map_eq_some_iff.mp hg
      rcases hx with ⟨c, ds, a, dx, fs, qq, rfl, _⟩ | ⟨ds, a, vs, qq, rfl, h1, r1⟩ | ⟨c, ds, a, dx, fs, qq, rfl, _⟩
      · simp [insD] at qq
      · simp only [scrD, PyData.dict.injEq, List.cons.injEq, Prod.mk.injEq, PyData.list.injEq, true_and, and_true] at qq
        subst qq
        obtain ⟨v, hv, rv⟩ := r1.atI hz
        exact .inl ⟨a, vs, _, v, rfl, hy, same_l hs h1, hv, q v rv⟩
      · simp [errD] at qq
    · cases hg
  · cases hg
end
section
variable {ct : CT} {X : Cx} {Wx : WX} {a b e : Expr} {F G : Env → Out Vl} {pos : Pos}
theorem de_add (ha : DE ct X Wx a F) (hb : DE ct X Wx b G) : DE ct X Wx (.BinOp a .Add b pos) (dOp gAdd F G) := de_bin op_addA opD_add ha hb
theorem de_sub (ha : DE ct X Wx a F) (hb : DE ct X Wx b G) : DE ct X Wx (.BinOp a .Sub b pos) (dOp gMinus F G) := de_bin op_sub opD_sub ha hb
theorem de_mul (ha : DE ct X Wx a F) (hb : DE ct X Wx b G) : DE ct X Wx (.BinOp a .Mult b pos) (dOp gMul F G) := de_bin op_mulA opD_mul ha hb
theorem de_fdiv (ha : DE ct X Wx a F) (hb : DE ct X Wx b G) : DE ct X Wx (.BinOp a .FloorDiv b pos) (dOp gFdiv F G) := de_bin op_fdiv opD_fdiv ha hb
theorem de_mod (ha : DE ct X Wx a F) (hb : DE ct X Wx b G) : DE ct X Wx (.BinOp a .Mod b pos) (dOp gMod F G) := de_bin op_mod opD_mod ha hb
theorem de_pow (ha : DE ct X Wx a F) (hb : DE ct X Wx b G) : DE ct X Wx (.BinOp a .Pow b pos) (dOp gPow F G) := de_bin op_pow opD_pow ha hb
def gNeg : D → Option Res
  | .int i => some (.d (.int (-i)))
  | _ => none
theorem unD_neg {K : PySem.W.Frag} : UnD K ct (rU fun i => .int (-i)) gNeg := by
  intro I H x d res Q hs hx hg q
  unfold gNeg at hg
  split at hg
  · cases hg; exact ⟨_, hx, q _ (.int _)⟩
  · cases hg
theorem de_neg (ha : DE ct X Wx a F) : DE ct X Wx (.UnaryOp .USub a pos) (dUn gNeg F) := pe_imp (pe_un un_neg ha) (un_rd unD_neg)
abbrev gLt := gCmpI fun i j => decide (i < j)
abbrev gLe := gCmpI fun i j => decide (i ≤ j)
abbrev gGt := gCmpI fun i j => decide (j < i)
abbrev gGe := gCmpI fun i j => decide (j ≤ i)
theorem de_lt (ha : DE ct X Wx a F) (hb : DE ct X Wx b G) : DE ct X Wx (.Compare a [.Lt] [b] pos) (dOp gLt F G) := de_cmp op_lt opD_cmp ha hb (nomark _)
theorem de_le (ha : DE ct X Wx a F) (hb : DE ct X Wx b G) : DE ct X Wx (.Compare a [.LtE] [b] pos) (dOp gLe F G) := de_cmp op_le opD_cmp ha hb (nomark _)
theorem de_gt (ha : DE ct X Wx a F) (hb : DE ct X Wx b G) : DE ct X Wx (.Compare a [.Gt] [b] pos) (dOp gGt F G) := de_cmp op_gt opD_cmp ha hb (nomark _)
theorem de_ge (ha : DE ct X Wx a F) (hb : DE ct X Wx b G) : DE ct X Wx (.Compare a [.GtE] [b] pos) (dOp gGe F G) := de_cmp op_ge opD_cmp ha hb (nomark _)
theorem de_eq (hu : X.A.units + 64 < cLine) (ha : DE ct X Wx a F) (hb : DE ct X Wx b G) : DE ct X Wx (.Compare a [.Eq] [b] pos) (dOp gEq F G) := de_cmp (op_eqP hu) opD_eq ha hb (nomark _)
theorem de_ne (hu : X.A.units + 64 < cLine) (ha : DE ct X Wx a F) (hb : DE ct X Wx b G) : DE ct X Wx (.Compare a [.NotEq] [b] pos) (dOp gNe F G) := de_cmp (op_neP hu) opD_ne ha hb (nomark _)
theorem de_in (hu : X.A.units + 64 < cLine) (ha : DE ct X Wx a F) (hb : DE ct X Wx b G) (hm : behindInMarks .In b = false := by rfl) : DE ct X Wx (.Compare a [.In] [b] pos) (dOp gIn F G) := de_cmp (op_inP hu) opD_in ha hb hm
theorem de_notIn (hu : X.A.units + 64 < cLine) (ha : DE ct X Wx a F) (hb : DE ct X Wx b G) (hm : behindInMarks .NotIn b = false := by rfl) : DE ct X Wx (.Compare a [.NotIn] [b] pos) (dOp gNotIn F G) := de_cmp (op_notInP hu) opD_notIn ha hb hm
theorem de_is (ha : DE ct X Wx a F) (hb : DE ct X Wx b G) : DE ct X Wx (.Compare a [.Is] [b] pos) (dOp gIs F G) := de_cmp op_isA opD_is ha hb (nomark _)
theorem de_isNot (ha : DE ct X Wx a F) (hb : DE ct X Wx b G) : DE ct X Wx (.Compare a [.IsNot] [b] pos) (dOp gIsNot F G) := de_cmp op_isNotA opD_isNot ha hb (nomark _)
/-- a comparison as a test: by its value -/
theorem dt_of_cmp {op : CmpOp} (h : DE ct X Wx (.Compare a [op] [b] pos) F) (he : ∀ whole, isTrue (.Compare a [op] [b] pos) X.env whole = (do let v ← whole; standAt (Expr.Compare a [op] [b] pos).pos; holding [v] (truthy v)) := by intro _; rfl) : DT ct X Wx (.Compare a [op] [b] pos) (dTru F) := dt_tru h he
theorem de_ix (ha : DE ct X Wx a F) (hb : DE ct X Wx b G) (hs : PlainIx b := by exact fun _ _ => rfl) : DE ct X Wx (.Subscript a b pos) (dOp gIx F G) := pe_imp (pe_ix ix_seq ha hb hs) (op_rd opD_ix)
end
end DL
end
section
set_option Elab.async false
set_option linter.all false
set_option maxRecDepth 100000
namespace DL
open PySem PySem.Spec PyProof.Rows L2
/-! ### argument lists -/
inductive Rels (K : PySem.W.Frag) (ct : CT) (W0 W : Wd) (σ : L2.St) : List V → List Vl → Prop
  | nil : Rels K ct W0 W σ [] []
  | cons {v : V} {vs : List V} {x : Vl} {xs : List Vl} : RVl K ct W0 W σ v x → Rels K ct W0 W σ vs xs → Rels K ct W0 W σ (v :: vs) (x :: xs)
def VPost (K : PySem.W.Frag) (ct : CT) (W : Wd) (σ : L2.St) (Wx : WX) (out : Out (List Vl)) (Q : List V → Hp → Prop) : Prop :=
  match out with
  | .ok xs ρ' => ∀ vs W', Wst W W' → Rep K ct W' σ ρ' → Rels K ct W W' σ vs xs → Q vs W'.H
  | .err e ρ' => ∀ cls d W', Wst W W' → Rep K ct W' σ ρ' → RErr K ct W' cls d e → Wx cls d σ W'.H
  | .bad => False
def rdV (K : PySem.W.Frag) (ct : CT) (Wx : WX) (F : Env → Out (List Vl)) : TA := fun σ H Q => ∃ W ρ, W.H = H ∧ Rep K ct W σ ρ ∧ VPost K ct W σ Wx (F ρ) Q
def DV (ct : CT) (X : Cx) (Wx : WX) (es : List Expr) (F : Env → Out (List Vl)) : Prop := PA X es (rdV X.K ct Wx F)
def vNil : Env → Out (List Vl) := fun ρ => .ok [] ρ
/-- as it is | what is nobody's comes to stand | all comes to stand -/
def vCons (F : Env → Out Vl) (G : Env → Out (List Vl)) : Env → Out (List Vl) := fun ρ => (F ρ).bind fun x ρ1 => (G ρ1).bind fun xs ρ2 => .ok (x :: xs) ρ2
def vFz (F : Env → Out Vl) (G : Env → Out (List Vl)) : Env → Out (List Vl) := fun ρ => (F ρ).bind fun x ρ1 => (frz x ρ1).bind fun d ρ2 => (G ρ2).bind fun xs ρ3 => .ok (.sl (.dat d) :: xs) ρ3
def aNil : Env → Out (List D) := fun ρ => .ok [] ρ
def aCons (F : Env → Out Vl) (G : Env → Out (List D)) : Env → Out (List D) := fun ρ => (F ρ).bind fun x ρ1 => (frz x ρ1).bind fun d ρ2 => (G ρ2).bind fun xs ρ3 => .ok (d :: xs) ρ3
section
variable {K : PySem.W.Frag} {ct : CT} {W W1 W2 : Wd} {σ : L2.St} {ρ ρ' : Env} {Wx : WX}
theorem VPost.mono {out : Out (List Vl)} {Q : List V → Hp → Prop} (h : VPost K ct W σ Wx out Q) (s : Wst W W1) : VPost K ct W1 σ Wx out Q := by
  cases out with
  | ok xs ρ' =>
    intro vs W' s' R r
    refine h vs W' (s.trans s') R ?_
    clear h
    induction r with
    | nil => exact .nil
    | cons h r ih =>
      refine .cons ?_ ih
      rename_i v vs x xs
      cases x with
      | bor i => exact h
      | sl sl =>
        obtain ⟨n, as, q, nd, f⟩ := h
        exact ⟨n, as, q, nd, fun a m => ⟨(f a m).1, fr0_back s (f a m).2⟩⟩
  | err e ρ' => exact fun c d W' s' R r => h c d W' (s.trans s') R r
  | bad => exact h
theorem EPost.bindV {o : Out Vl} {k : Vl → Env → Out (List Vl)} {Q : List V → Hp → Prop} {Q' : VK} (h : VPost K ct W σ Wx (o.bind k) Q)
    (hk : ∀ vl ρ1 v W1, Wst W W1 → Rep K ct W1 σ ρ1 → RVl K ct W W1 σ v vl → VPost K ct W σ Wx (k vl ρ1) Q → Q' v W1.H) : EPost K ct W σ Wx o Q' := by
  cases o with
  | ok vl ρ' => exact fun v W' s R r => hk vl ρ' v W' s R r h
  | err e ρ' => exact h
  | bad => exact h
/-- from a later world on -/
theorem VPost.bindV {o : Out (List Vl)} {k : List Vl → Env → Out (List Vl)} {Q Q' : List V → Hp → Prop} (s0 : Wst W W1) (h : VPost K ct W σ Wx (o.bind k) Q)
    (hk : ∀ xs ρ1 vs W2, Wst W1 W2 → Rep K ct W2 σ ρ1 → Rels K ct W1 W2 σ vs xs → VPost K ct W σ Wx (k xs ρ1) Q → Q' vs W2.H) : VPost K ct W1 σ Wx o Q' := by
  cases o with
  | ok vl ρ' => exact fun v W' s R r => hk vl ρ' v W' s R r h
  | err e ρ' => exact fun c d W' s' R r => h c d W' (s0.trans s') R r
  | bad => exact h
theorem VPost.bindE {o : Out (List Vl)} {k : List Vl → Env → Out Vl} {Q : VK} {Q' : List V → Hp → Prop} (s0 : Wst W W1) (h : EPost K ct W σ Wx (o.bind k) Q)
    (hk : ∀ xs ρ1 vs W2, Wst W1 W2 → Rep K ct W2 σ ρ1 → Rels K ct W1 W2 σ vs xs → EPost K ct W σ Wx (k xs ρ1) Q → Q' vs W2.H) : VPost K ct W1 σ Wx o Q' := by
  cases o with
  | ok vl ρ' => exact fun v W' s R r => hk vl ρ' v W' s R r h
  | err e ρ' => exact fun c d W' s' R r => h c d W' (s0.trans s') R r
  | bad => exact h
theorem APost.bindA' {o : Out (List D)} {k : List D → Env → Out (List D)} {Q Q' : List V → Hp → Prop} (s0 : Wst W W1) (h : APost K ct W σ Wx (o.bind k) Q)
    (hk : ∀ xs ρ1 vs W2, Wst W1 W2 → Rep K ct W2 σ ρ1 → RVs K ct W2.I vs xs → APost K ct W σ Wx (k xs ρ1) Q → Q' vs W2.H) : APost K ct W1 σ Wx o Q' := by
  cases o with
  | ok vl ρ' => exact fun v W' s R r => hk vl ρ' v W' s R r h
  | err e ρ' => exact fun c d W' s' R r => h c d W' (s0.trans s') R r
  | bad => exact h
theorem Rels.dat : ∀ {vs : List V} {ds : List D} {W0 : Wd}, RVs K ct W.I vs ds → Rels K ct W0 W σ vs (ds.map fun d => .sl (.dat d))
  | _, _, _, .nil => .nil
  | _, _, _, .cons h r => .cons (.dat h) (Rels.dat r)
/-- relative to an earlier world -/
theorem Rels.back {vs : List V} {xs : List Vl} (s : Wst W W1) (h : Rels K ct W1 W2 σ vs xs) : Rels K ct W W2 σ vs xs := by
  induction h with
  | nil => exact .nil
  | cons h r ih =>
    refine .cons ?_ ih
    rename_i v vs x xs
    cases x with
    | bor i => exact h
    | sl sl =>
      obtain ⟨n, as, q, nd, f⟩ := h
      exact ⟨n, as, q, nd, fun a m => ⟨(f a m).1, fr0_back s (f a m).2⟩⟩
end
section
variable {ct : CT} {X : Cx} {Wx : WX} {a b e : Expr} {es : List Expr} {F : Env → Out Vl} {G : Env → Out (List Vl)} {A : Env → Out (List D)} {pos : Pos}
theorem dv_nil : DV ct X Wx [] vNil := pa_imp pa_nil fun σ H Q h => by
  obtain ⟨W, ρ, rfl, R, h⟩ := h
  exact h [] W (.refl _) R .nil
theorem da_nil : DA ct X Wx [] aNil := pa_imp pa_nil fun σ H Q h => by
  obtain ⟨W, ρ, rfl, R, h⟩ := h
  exact h [] W (.refl _) R .nil
theorem dv_cons (ha : DE ct X Wx e F) (hr : DV ct X Wx es G) (hs : starEach (e :: es) X.env = (false, eval e X.env) :: starEach es X.env := by rfl) : DV ct X Wx (e :: es) (vCons F G) :=
  pa_imp (pa_cons ha hr hs) fun σ H Q h => by
    obtain ⟨W, ρ, rfl, R, h⟩ := h
    exact ⟨W, ρ, rfl, R, EPost.bindV h fun vx ρ1 x W1 s1 R1 r1 h1 => ⟨W1, ρ1, rfl, R1, VPost.bindV s1 h1 fun xs ρ2 vs W2 s2 R2 r2 h2 => h2 _ W2 (s1.trans s2) R2 (.cons (r1.keep s2) (r2.back s1))⟩⟩
/-- what a value is once it stands -/
theorem dv_fz (ha : DE ct X Wx e F) (hr : DV ct X Wx es G) (hs : starEach (e :: es) X.env = (false, eval e X.env) :: starEach es X.env := by rfl) : DV ct X Wx (e :: es) (vFz F G) :=
  pa_imp (pa_cons ha hr hs) fun σ H Q h => by
    obtain ⟨W, ρ, rfl, R, h⟩ := h
    refine ⟨W, ρ, rfl, R, EPost.bindV h fun vx ρ1 x W1 s1 R1 r1 h1 => ?_⟩
    cases ef : frz vx ρ1 with
    | bad => simp only [ef] at h1; exact h1.elim
    | err e ρ' => cases vx <;> simp only [frz] at ef <;> split at ef <;> cases ef
    | ok d ρ2 =>
      simp only [ef] at h1
      obtain ⟨W2, eH, s2, R2, rv⟩ := frz_ok s1 R1 r1 ef
      refine ⟨W2, ρ2, eH, R2, VPost.bindV s2 h1 fun xs ρ3 vs W3 s3 R3 r3 h3 => h3 _ W3 (s2.trans s3) R3 (.cons (.dat (rv.mono s3.same)) (r3.back s2))⟩
theorem da_cons (ha : DE ct X Wx e F) (hr : DA ct X Wx es A) (hs : starEach (e :: es) X.env = (false, eval e X.env) :: starEach es X.env := by rfl) : DA ct X Wx (e :: es) (aCons F A) :=
  pa_imp (pa_cons ha hr hs) fun σ H Q h => by
    obtain ⟨W, ρ, rfl, R, h⟩ := h
    refine ⟨W, ρ, rfl, R, EPost.bindA h fun vx ρ1 x W1 s1 R1 r1 h1 => ?_⟩
    cases ef : frz vx ρ1 with
    | bad => simp only [ef] at h1; exact h1.elim
    | err e ρ' => cases vx <;> simp only [frz] at ef <;> split at ef <;> cases ef
    | ok d ρ2 =>
      simp only [ef] at h1
      obtain ⟨W2, eH, s2, R2, rv⟩ := frz_ok s1 R1 r1 ef
      exact ⟨W2, ρ2, eH, R2, APost.bindA' s2 h1 fun xs ρ3 vs W3 s3 R3 r3 h3 => h3 _ W3 (s2.trans s3) R3 (.cons (rv.mono s3.same) r3)⟩
/-! ### tuples, lists -/
def dTup (A : Env → Out (List D)) : Env → Out Vl := fun ρ => (A ρ).bind fun ds ρ1 => if ds.length ≤ sizeLine then .ok (.sl (.dat (.tuple ds))) ρ1 else .bad
def dLst (A : Env → Out (List D)) : Env → Out Vl := fun ρ => (A ρ).bind fun ds ρ1 => if ds.length ≤ sizeLine then .ok (.sl (.own ds)) ρ1 else .bad
theorem de_tup {x1} (h : DA ct X Wx es A) : DE ct X Wx (.Tuple es x1 pos) (dTup A) := pe_imp (pe_tup h) fun σ H Q h => by
  obtain ⟨W, ρ, rfl, R, h⟩ := h
  refine ⟨W, ρ, rfl, R, APost.bindE h fun ds ρ1 vs W1 s1 R1 r1 h1 => ?_⟩
  split at h1
  · rename_i hz
    exact ⟨by rw [r1.length]; exact hz, fun p hp => (R1.res (res := .tup ds) (h1.mono s1)).2 p vs hp r1⟩
  · exact h1.elim
theorem de_lst (h : DA ct X Wx es A) : DE ct X Wx (.List es pos) (dLst A) := pe_imp (pe_lst h) fun σ H Q h => by
  obtain ⟨W, ρ, rfl, R, h⟩ := h
  refine ⟨W, ρ, rfl, R, APost.bindE h fun ds ρ1 vs W1 s1 R1 r1 h1 => ?_⟩
  split at h1
  · rename_i hz
    exact ⟨by rw [r1.length]; exact hz, fun p hp => (R1.res (res := .lst ds) (h1.mono s1)) p vs hp r1⟩
  · exact h1.elim
/-! ### calls of what is built in, on data that is read -/
def looks (xs : List Vl) (ρ : Env) : Option (List D) := xs.mapM fun x => lookD x ρ
inductive RLs (K : PySem.W.Frag) (ct : CT) (I H : Hp) : List V → List D → Prop
  | nil : RLs K ct I H [] []
  | cons {v : V} {vs : List V} {d : D} {ds : List D} : RL K ct I H v d → RLs K ct I H vs ds → RLs K ct I H (v :: vs) (d :: ds)
def lookAll : List Vl → Env → Option (List D)
  | [], _ => some []
  | x :: xs, ρ => match lookD x ρ with
    | some d => (lookAll xs ρ).map (d :: ·)
    | none => none
theorem Rels.rl {K : PySem.W.Frag} {W0 W : Wd} {σ : L2.St} {ρ : Env} (R : Rep K ct W σ ρ) {vs : List V} {xs : List Vl} (h : Rels K ct W0 W σ vs xs) : ∀ {ds : List D}, lookAll xs ρ = some ds → RLs K ct W.I W.H vs ds := by
  induction h with
  | nil => intro ds e; cases e; exact .nil
  | cons h r ih =>
    intro ds e
    rename_i v vs x xs
    cases e1 : lookD x ρ with
    | none => simp only [lookAll, e1] at e; cases e
    | some d =>
      simp only [lookAll, e1] at e
      obtain ⟨es, e2, rfl⟩ := Option.map_eq_some_iff.mp e
      exact .cons (h.rl R e1) (ih e2)
def dCB (g : List D → Option Res) (A : Env → Out (List Vl)) : Env → Out Vl := fun ρ => (A ρ).bind fun xs ρ1 =>
  match (lookAll xs ρ1).bind g with
  | some r => .ok r.vl ρ1
  | none => .bad
def CallD (K : PySem.W.Frag) (ct : CT) (r : List V → Hp → VK → Prop) (g : List D → Option Res) : Prop :=
  ∀ (I H : Hp) (vs : List V) (ds : List D) (res : Res) (Q : VK), Same I H → RLs K ct I H vs ds → g ds = some res → RRes K ct I H Q res → r vs H Q
theorem cb_rd {r : List V → Hp → VK → Prop} {g : List D → Option Res} (hg : CallD X.K ct r g) (σ : L2.St) (H : Hp) (Q : VK) (h : rdE X.K ct Wx (dCB g G) σ H Q) : tCB r (rdV X.K ct Wx G) σ H Q := by
  obtain ⟨W, ρ, rfl, R, h⟩ := h
  refine ⟨W, ρ, rfl, R, VPost.bindE (.refl W) h fun xs ρ1 vs W1 s1 R1 r1 h1 => ?_⟩
  cases e : (lookAll xs ρ1).bind g with
  | none => simp only [e] at h1; exact h1.elim
  | some res =>
    simp only [e] at h1
    obtain ⟨ds, e1, e2⟩ := Option.bind_eq_some_iff.mp e
    exact hg W1.I W1.H vs ds res Q R1.same (r1.rl R1 e1) e2 (R1.res (h1.mono s1))
section
variable {x : Str} {p : Pos} {id T : String} {r : List V → Hp → VK → Prop} {g : List D → Option Res}
theorem de_callB (hc : CallR X (.builtin id) r) (hg : CallD X.K ct r g) (hgl : Gl X x) (hm : X.mg x = none) (hv : bootBuiltins x = some (.builtin id)) (ha : DV ct X Wx (e :: es) G) (hn : x ≠ "__name__" := by decide) (hdb : (x == ("__debug__" : Str)) = false := by decide)
    (he : starEach (e :: es) X.env = (false, eval e X.env) :: starEach es X.env := by rfl) (hpl : (backTo pos (starEach es X.env)).any (·.1) = false := by rfl) : DE ct X Wx (.Call (.Name x p) (e :: es) [] pos) (dCB g G) :=
  pe_imp (pe_callB hc hgl hm hv ha hn hdb he hpl) (cb_rd hg)
theorem de_callTy (hc : CallR X (.type T) r) (hg : CallD X.K ct r g) (hgl : Gl X x) (hm : X.mg x = none) (hv : bootBuiltins x = some (.type T)) (ha : DV ct X Wx (e :: es) G) (hn : x ≠ "__name__" := by decide) (hdb : (x == ("__debug__" : Str)) = false := by decide)
    (he : starEach (e :: es) X.env = (false, eval e X.env) :: starEach es X.env := by rfl) (hpl : (backTo pos (starEach es X.env)).any (·.1) = false := by rfl) : DE ct X Wx (.Call (.Name x p) (e :: es) [] pos) (dCB g G) :=
  pe_imp (pe_callTy hc hgl hm hv ha hn hdb he hpl) (cb_rd hg)
end
end
def gLen : List D → Option Res
  | [.str y] => if y.length ≤ sizeLine then some (.d (.int y.length)) else none
  | [.list ds] => some (.d (.int ds.length))
  | [.tuple ds] => some (.d (.int ds.length))
  | [.dict kvs] => match kvs with
    | [(.bool true, .list xs)] => some (.d (.int xs.length))
    | _ => none
  | _ => none
def rLenA (K : PySem.W.Frag) : List V → Hp → VK → Prop := fun xs H Q => ∃ x n, xs = [x] ∧ LenV K x H n ∧ Q (.int n) H
def gAbs : List D → Option Res
  | [.int i] => some (.d (.int (if i < 0 then -i else i)))
  | _ => none
def gInt : List D → Option Res
  | [.int i] => some (.d (.int i))
  | [.bool b] => some (.d (.int (if b then 1 else 0)))
  | _ => none
def gMax2 : List D → Option Res
  | [.int i, .int j] => some (.d (.int (if j > i then j else i)))
  | _ => none
def gMin2 : List D → Option Res
  | [.int i, .int j] => some (.d (.int (if j < i then j else i)))
  | _ => none
def gStrI : List D → Option Res
  | [.int i] => if i.natAbs.log2 < 1920 then some (.d (.str (toString i))) else none
  | _ => none
def gTuple : List D → Option Res
  | [.list ds] => some (.tup ds)
  | [.tuple ds] => some (.d (.tuple ds))
  | _ => none
def gList : List D → Option Res
  | [.list ds] => some (.lst ds)
  | [.tuple ds] => some (.lst ds)
  | _ => none
section
variable {K : PySem.W.Frag} {ct : CT}
theorem RLs.one {I H : Hp} {vs : List V} {d : D} (h : RLs K ct I H vs [d]) : ∃ v, vs = [v] ∧ RL K ct I H v d := by
  cases h with
  | cons h r => cases r; exact ⟨_, rfl, h⟩
theorem RLs.two {I H : Hp} {vs : List V} {d e : D} (h : RLs K ct I H vs [d, e]) : ∃ v w, vs = [v, w] ∧ RL K ct I H v d ∧ RL K ct I H w e := by
  cases h with
  | cons h r => obtain ⟨w, rfl, h2⟩ := r.one; exact ⟨_, _, rfl, h, h2⟩
theorem callD_len : CallD K ct (rLenA K) gLen := by
  intro I H vs ds res Q hs hx hg q
  unfold gLen at hg
  split at hg
  · split at hg
    · cases hg
      obtain ⟨v, rfl, rfl⟩ := hx.one
      exact ⟨_, _, rfl, ⟨by assumption, rfl⟩, q _ (.int _)⟩
    · cases hg
  · cases hg
    obtain ⟨v, rfl, a, ws, rfl, h1, r1⟩ := hx.one
    exact ⟨_, _, rfl, .inl ⟨ws, .of h1, rfl⟩, by rw [r1.length]; exact q _ (.int _)⟩
  · cases hg
    obtain ⟨v, rfl, a, ws, rfl, h1, r1⟩ := hx.one
    exact ⟨_, _, rfl, .inr ⟨ws, same_t hs h1, rfl⟩, by rw [r1.length]; exact q _ (.int _)⟩
  · split at hg
    · cases hg
      obtain ⟨v, rfl, hx2⟩ := hx.one
      rcases hx2 with ⟨c, cs, a, dx, fs, qq, ev, _⟩ | ⟨cs, a, ws, qq, ev, h1, r1⟩ | ⟨c, cs, a, dx, fs, qq, ev, _⟩
      · simp [insD] at qq
      · simp only [scrD, PyData.dict.injEq, List.cons.injEq, Prod.mk.injEq, PyData.list.injEq, true_and, and_true] at qq
        subst qq
        subst ev
        exact ⟨_, _, rfl, .inl ⟨ws, same_l hs h1, rfl⟩, by rw [r1.length]; exact q _ (.int _)⟩
      · simp [errD] at qq
    · cases hg
  · cases hg
theorem callD_abs : CallD K ct (fun xs H Q => ∃ i, xs = [.int i] ∧ Q (.int (if i < 0 then -i else i)) H) gAbs := by
  intro I H vs ds res Q hs hx hg q
  unfold gAbs at hg
  split at hg
  · cases hg
    obtain ⟨v, rfl, rfl⟩ := hx.one
    exact ⟨_, rfl, q _ (.int _)⟩
  · cases hg
theorem callD_int : CallD K ct (fun xs H Q => (∃ i, xs = [.int i] ∧ Q (.int i) H) ∨ ∃ k, xs = [.bl k] ∧ Q (.int (if k then 1 else 0)) H) gInt := by
  intro I H vs ds res Q hs hx hg q
  unfold gInt at hg
  split at hg
  · cases hg
    obtain ⟨v, rfl, rfl⟩ := hx.one
    exact .inl ⟨_, rfl, q _ (.int _)⟩
  · cases hg
    obtain ⟨v, rfl, rfl⟩ := hx.one
    exact .inr ⟨_, rfl, q _ (.int _)⟩
  · cases hg
theorem callD_max2 : CallD K ct (fun xs H Q => ∃ i j, xs = [.int i, .int j] ∧ Q (.int (if j > i then j else i)) H) gMax2 := by
  intro I H vs ds res Q hs hx hg q
  unfold gMax2 at hg
  split at hg
  · cases hg
    obtain ⟨v, w, rfl, rfl, rfl⟩ := hx.two
    exact ⟨_, _, rfl, q _ (.int _)⟩
  · cases hg
theorem callD_min2 : CallD K ct (fun xs H Q => ∃ i j, xs = [.int i, .int j] ∧ Q (.int (if j < i then j else i)) H) gMin2 := by
  intro I H vs ds res Q hs hx hg q
  unfold gMin2 at hg
  split at hg
  · cases hg
    obtain ⟨v, w, rfl, rfl, rfl⟩ := hx.two
    exact ⟨_, _, rfl, q _ (.int _)⟩
  · cases hg
theorem callD_strI : CallD K ct (fun xs H Q => ∃ i, xs = [.int i] ∧ i.natAbs.log2 < 1920 ∧ Q (.str (toString i)) H) gStrI := by
  intro I H vs ds res Q hs hx hg q
  unfold gStrI at hg
  split at hg
  · split at hg
    · cases hg
      obtain ⟨v, rfl, rfl⟩ := hx.one
      exact ⟨_, rfl, by assumption, q _ (.str _)⟩
    · cases hg
  · cases hg
theorem callD_tuple : CallD K ct (fun xs H Q => ∃ p ys, xs = [.ref p] ∧ ((SqL K H p ys ∧ ∀ l, H l = none → Q (.ref l) (upd H l (.tup ys))) ∨ (SqT K H p ys ∧ Q (.ref p) H))) gTuple := by
  intro I H vs ds res Q hs hx hg q
  unfold gTuple at hg
  split at hg
  · cases hg
    obtain ⟨v, rfl, a, ws, rfl, h1, r1⟩ := hx.one
    exact ⟨_, ws, rfl, .inl ⟨.of h1, fun l hl => q.2 l ws hl r1⟩⟩
  · cases hg
    obtain ⟨v, rfl, a, ws, rfl, h1, r1⟩ := hx.one
    exact ⟨_, ws, rfl, .inr ⟨same_t hs h1, q _ (.tup h1 r1)⟩⟩
  · cases hg
theorem callD_list : CallD K ct (fun xs H Q => ∃ p ys, xs = [.ref p] ∧ (SqL K H p ys ∨ SqT K H p ys) ∧ ∀ l, H l = none → Q (.ref l) (upd H l (.lst ys))) gList := by
  intro I H vs ds res Q hs hx hg q
  unfold gList at hg
  split at hg
  · cases hg
    obtain ⟨v, rfl, a, ws, rfl, h1, r1⟩ := hx.one
    exact ⟨_, ws, rfl, .inl (.of h1), fun l hl => q l ws hl r1⟩
  · cases hg
    obtain ⟨v, rfl, a, ws, rfl, h1, r1⟩ := hx.one
    exact ⟨_, ws, rfl, .inr (same_t hs h1), fun l hl => q l ws hl r1⟩
  · cases hg
end
end DL
end
section
set_option Elab.async false
set_option linter.all false
set_option maxRecDepth 100000
namespace DL
open PySem PySem.Spec PyProof.Rows L2
/-! ### statements -/
inductive SOut where
  | nx (ρ : Env) | rt (v : Vl) (ρ : Env) | bk (ρ : Env) | ct (ρ : Env) | er (e : Er) (ρ : Env) | bad
/-- the parameters' slots stand -/
def Fix (n : Nat) (σ σ' : L2.St) : Prop := ∀ i, i < n → σ'[i]? = σ[i]?
theorem Fix.refl {n : Nat} {σ : L2.St} : Fix n σ σ := fun _ _ => rfl
theorem Fix.trans {n : Nat} {σ σ1 σ2 : L2.St} (a : Fix n σ σ1) (b : Fix n σ1 σ2) : Fix n σ σ2 := fun i h => (b i h).trans (a i h)
theorem Fix.set {n i : Nat} {σ : L2.St} {o : Option V} (h : ¬ i < n) : Fix n σ (σ.set i o) := fun j hj => by
  rw [List.getElem?_set_ne (by omega)]
section
variable (K : PySem.W.Frag) (ct : CT) (n : Nat)
def SPost (W : Wd) (σ : L2.St) (Wx : WX) (out : SOut) (Y : Ends) : Prop :=
  match out with
  | .nx ρ' => ∀ σ' W', Wst W W' → Rep K ct W' σ' ρ' → Fix n σ σ' → Y.nx σ' W'.H
  | .bk ρ' => ∀ σ' W', Wst W W' → Rep K ct W' σ' ρ' → Fix n σ σ' → Y.bk σ' W'.H
  | .ct ρ' => ∀ σ' W', Wst W W' → Rep K ct W' σ' ρ' → Fix n σ σ' → Y.ct σ' W'.H
  | .rt vl ρ' => ∀ v σ' W', Wst W W' → Rep K ct W' σ' ρ' → Fix n σ σ' → RVl K ct W W' σ' v vl → Y.rt v W'.H
  | .er e ρ' => ∀ cls d σ' W', Wst W W' → Rep K ct W' σ' ρ' → Fix n σ σ' → RErr K ct W' cls d e → Wx cls d σ' W'.H
  | .bad => False
def rdS (Wx : WX) (F : Env → SOut) : TS := fun Y σ H => ∃ W ρ, W.H = H ∧ Rep K ct W σ ρ ∧ SPost K ct n W σ Wx (F ρ) Y
end
def DS (ct : CT) (X : Cx) (Wx : WX) (n : Nat) (st : Stmt) (F : Env → SOut) : Prop := PS X st (rdS X.K ct n Wx F)
def DB (ct : CT) (X : Cx) (Wx : WX) (n : Nat) (st : List Stmt) (F : Env → SOut) : Prop := PSs X st (rdS X.K ct n Wx F)
def sSeq (F G : Env → SOut) : Env → SOut := fun ρ => match F ρ with
  | .nx ρ1 => G ρ1
  | o => o
def sNext : Env → SOut := fun ρ => .nx ρ
def sRet (F : Env → Out Vl) : Env → SOut := fun ρ => match F ρ with
  | .ok v ρ1 => .rt v ρ1
  | .err e ρ1 => .er e ρ1
  | .bad => .bad
def sRetN : Env → SOut := fun ρ => .rt (.sl (.dat .none)) ρ
def sIf (T : Env → Out Bool) (F G : Env → SOut) : Env → SOut := fun ρ => match T ρ with
  | .ok b ρ1 => if b then F ρ1 else G ρ1
  | .err e ρ1 => .er e ρ1
  | .bad => .bad
def sDrop (F : Env → Out Vl) : Env → SOut := fun ρ => match F ρ with
  | .ok _ ρ1 => .nx ρ1
  | .err e ρ1 => .er e ρ1
  | .bad => .bad
/-- a name is set: a list or an object of one's own stays so | it comes to stand -/
def sSet (n i : Nat) (F : Env → Out Vl) : Env → SOut := fun ρ => if i < n then .bad else match F ρ with
  | .ok (.sl s) ρ1 => .nx (ρ1.set i s)
  | .ok (.bor j) ρ1 => .bad
  | .err e ρ1 => .er e ρ1
  | .bad => .bad
def sSetD (n i : Nat) (F : Env → Out Vl) : Env → SOut := fun ρ => if i < n then .bad else match (F ρ).bind frz with
  | .ok d ρ1 => .nx (ρ1.set i (.dat d))
  | .err e ρ1 => .er e ρ1
  | .bad => .bad
section
variable {K : PySem.W.Frag} {ct : CT} {n : Nat} {W0 W W1 W2 : Wd} {σ σ1 : L2.St} {ρ ρ' : Env} {Wx : WX} {Y : Ends}
theorem RVl.back {v : V} {x : Vl} (s : Wst W W1) (h : RVl K ct W1 W2 σ v x) : RVl K ct W W2 σ v x := by
  cases x with
  | bor i => exact h
  | sl sl =>
    obtain ⟨n, as, q, nd, f⟩ := h
    exact ⟨n, as, q, nd, fun a m => ⟨(f a m).1, fr0_back s (f a m).2⟩⟩
theorem SPost.mono {out : SOut} (h : SPost K ct n W σ Wx out Y) (s : Wst W W1) (f : Fix n σ σ1) : SPost K ct n W1 σ1 Wx out Y := by
  cases out with
  | nx ρ' => exact fun σ' W' s' R f' => h σ' W' (s.trans s') R (f.trans f')
  | bk ρ' => exact fun σ' W' s' R f' => h σ' W' (s.trans s') R (f.trans f')
  | ct ρ' => exact fun σ' W' s' R f' => h σ' W' (s.trans s') R (f.trans f')
  | rt v ρ' => exact fun v σ' W' s' R f' r => h v σ' W' (s.trans s') R (f.trans f') (r.back s)
  | er e ρ' => exact fun c d σ' W' s' R f' r => h c d σ' W' (s.trans s') R (f.trans f') r
  | bad => exact h
/-- an expression, then a statement's end -/
theorem EPost.toS {o : Out Vl} {k : Vl → Env → SOut} {Q : VK} (h : SPost K ct n W σ Wx (match o with | .ok v ρ1 => k v ρ1 | .err e ρ1 => .er e ρ1 | .bad => .bad) Y)
    (hk : ∀ vl ρ1 v W1, Wst W W1 → Rep K ct W1 σ ρ1 → RVl K ct W W1 σ v vl → SPost K ct n W σ Wx (k vl ρ1) Y → Q v W1.H) : EPost K ct W σ Wx o Q := by
  cases o with
  | ok vl ρ' => exact fun v W' s R r => hk vl ρ' v W' s R r h
  | err e ρ' => exact fun c d W' s R r => h c d σ W' s R .refl r
  | bad => exact h
theorem TPost.toS {o : Out Bool} {k : Bool → Env → SOut} {Q : Bool → Hp → Prop} (h : SPost K ct n W σ Wx (match o with | .ok v ρ1 => k v ρ1 | .err e ρ1 => .er e ρ1 | .bad => .bad) Y)
    (hk : ∀ b ρ1 W1, Wst W W1 → Rep K ct W1 σ ρ1 → SPost K ct n W σ Wx (k b ρ1) Y → Q b W1.H) : TPost K ct W σ Wx o Q := by
  cases o with
  | ok vl ρ' => exact fun W' s R => hk vl ρ' W' s R h
  | err e ρ' => exact fun c d W' s R r => h c d σ W' s R .refl r
  | bad => exact h
/-- a slot gets what is nobody's -/
theorem Rep.put (R : Rep K ct W σ ρ) (i : Nat) {v : V} {as : List Addr} {s : Sl} (q : RSl K ct W.I W.H v as s) (nd : as.Nodup) (f : ∀ a ∈ as, a ∉ W.own) (hs : ∀ a ∈ as, Fr0 W0 a) (s0 : Wst W0 W) :
    Wst W0 { W with w := W.w.set i as } ∧ Rep K ct { W with w := W.w.set i as } (σ.set i (some v)) (ρ.set i s) := by
  refine ⟨⟨s0.same, s0.frame, fun b m => ?_, s0.ifr, s0.alive⟩, R.same, R.reps.set i (.of q), nodup_set i R.nd nd fun a m m' => f a m (flatten_set_sub m')⟩
  obtain ⟨l, hl, ha⟩ := List.mem_flatten.mp m
  rcases List.mem_or_eq_of_mem_set hl with h1 | h1
  · exact s0.ofr b (List.mem_flatten.mpr ⟨l, h1, ha⟩)
  · rw [h1] at ha; exact (hs b ha).elim .inr .inl
end
section
variable {ct : CT} {X : Cx} {Wx : WX} {n : Nat} {a b e : Expr} {st : Stmt} {sts : List Stmt} {F : Env → Out Vl} {T : Env → Out Bool} {S U : Env → SOut} {pos : Pos}
theorem db_nil : DB ct X Wx n [] sNext := pss_imp pss_nil fun Y σ H h => by
  obtain ⟨W, ρ, rfl, R, h⟩ := h
  exact h σ W (.refl _) R .refl
theorem seq_rd (Y : Ends) (σ : L2.St) (H : Hp) (h : rdS X.K ct n Wx (sSeq S U) Y σ H) : tSeq (rdS X.K ct n Wx S) (rdS X.K ct n Wx U) Y σ H := by
  obtain ⟨W, ρ, rfl, R, h⟩ := h
  refine ⟨W, ρ, rfl, R, ?_⟩
  simp only [sSeq] at h
  cases e : S ρ with
  | nx ρ1 =>
    rw [e] at h
    exact fun σ' W' s R' f => ⟨W', ρ1, rfl, R', SPost.mono (out := U ρ1) h s f⟩
  | bk ρ1 => rw [e] at h; exact h
  | ct ρ1 => rw [e] at h; exact h
  | rt v ρ1 => rw [e] at h; exact h
  | er _ ρ1 => rw [e] at h; exact h
  | bad => rw [e] at h; exact h
theorem db_cons (h1 : DS ct X Wx n st S) (h2 : DB ct X Wx n sts U) : DB ct X Wx n (st :: sts) (sSeq S U) := pss_imp (pss_cons h1 h2) seq_rd
theorem db_one (h1 : DS ct X Wx n st S) : DB ct X Wx n [st] S := pss_one h1
theorem ds_pass : DS ct X Wx n (.Pass pos) sNext := ps_imp ps_pass fun Y σ H h => by
  obtain ⟨W, ρ, rfl, R, h⟩ := h
  exact h σ W (.refl _) R .refl
theorem ds_break : DS ct X Wx n (.Break pos) .bk := ps_imp ps_break fun Y σ H h => by
  obtain ⟨W, ρ, rfl, R, h⟩ := h
  exact h σ W (.refl _) R .refl
theorem ds_continue : DS ct X Wx n (.Continue pos) .ct := ps_imp ps_continue fun Y σ H h => by
  obtain ⟨W, ρ, rfl, R, h⟩ := h
  exact h σ W (.refl _) R .refl
theorem ds_expr (he : DE ct X Wx e F) (hs : swapsWith e none pos.line X.env = pure false := by rfl) : DS ct X Wx n (.Expr e pos) (sDrop F) := ps_imp (ps_expr he hs) fun Y σ H h => by
  obtain ⟨W, ρ, rfl, R, h⟩ := h
  exact ⟨W, ρ, rfl, R, EPost.toS (k := fun _ ρ1 => .nx ρ1) h fun vl ρ1 v W1 s1 R1 r1 h1 => h1 σ W1 s1 R1 .refl⟩
theorem ds_ret (he : DE ct X Wx e F) : DS ct X Wx n (.Return (some e) pos) (sRet F) := ps_imp (ps_ret he) fun Y σ H h => by
  obtain ⟨W, ρ, rfl, R, h⟩ := h
  exact ⟨W, ρ, rfl, R, EPost.toS (k := fun v ρ1 => .rt v ρ1) h fun vl ρ1 v W1 s1 R1 r1 h1 => h1 v σ W1 s1 R1 .refl r1⟩
theorem ds_retN : DS ct X Wx n (.Return none pos) sRetN := ps_imp ps_retN fun Y σ H h => by
  obtain ⟨W, ρ, rfl, R, h⟩ := h
  exact h .non σ W (.refl _) R .refl (.dat .non)
theorem ds_if {c : Expr} {p q : List Stmt} (hc : DT ct X Wx c T) (ha : DB ct X Wx n p S) (hb : DB ct X Wx n q U) : DS ct X Wx n (.If c p q pos) (sIf T S U) := ps_imp (ps_if hc ha hb) fun Y σ H h => by
  obtain ⟨W, ρ, rfl, R, h⟩ := h
  refine ⟨W, ρ, rfl, R, TPost.toS (k := fun b ρ1 => if b then S ρ1 else U ρ1) h fun b ρ1 W1 s1 R1 h1 => ?_⟩
  cases b with
  | true => exact ⟨W1, ρ1, rfl, R1, SPost.mono (out := S ρ1) h1 s1 .refl⟩
  | false => exact ⟨W1, ρ1, rfl, R1, SPost.mono (out := U ρ1) h1 s1 .refl⟩
theorem set_rd {i : Nat} (Y : Ends) (σ : L2.St) (H : Hp) (h : rdS X.K ct n Wx (sSet n i F) Y σ H) : tAsg (rdE X.K ct Wx F) (gName i) Y σ H := by
  obtain ⟨W, ρ, rfl, R, h⟩ := h
  simp only [sSet] at h
  split at h
  · exact h.elim
  · rename_i hi
    refine ⟨W, ρ, rfl, R, ?_⟩
    cases e : F ρ with
    | ok vl ρ1 =>
      rw [e] at h
      cases vl with
      | bor j => exact h.elim
      | sl s =>
        intro v W1 s1 R1 r1
        obtain ⟨nn, as, q, nd, f⟩ := r1
        obtain ⟨s2, R2⟩ := R1.put i q nd (fun a m => (f a m).1) (fun a m => (f a m).2) s1
        exact h (σ.set i (some v)) { W1 with w := W1.w.set i as } s2 R2 (.set hi)
    | err er ρ1 => rw [e] at h; exact fun c d W' s R r => h c d σ W' s R .refl r
    | bad => rw [e] at h; exact h
theorem setD_rd {i : Nat} (Y : Ends) (σ : L2.St) (H : Hp) (h : rdS X.K ct n Wx (sSetD n i F) Y σ H) : tAsg (rdE X.K ct Wx F) (gName i) Y σ H := by
  obtain ⟨W, ρ, rfl, R, h⟩ := h
  simp only [sSetD] at h
  split at h
  · exact h.elim
  · rename_i hi
    refine ⟨W, ρ, rfl, R, ?_⟩
    cases e : F ρ with
    | ok vl ρ1 =>
      rw [e] at h
      intro v W1 s1 R1 r1
      simp only [Out.bind_ok] at h
      cases ef : frz vl ρ1 with
      | bad => rw [ef] at h; exact h.elim
      | err e ρ' => cases vl <;> simp only [frz] at ef <;> split at ef <;> cases ef
      | ok d ρ2 =>
        rw [ef] at h
        obtain ⟨W2, eH, s2, R2, rv⟩ := frz_ok s1 R1 r1 ef
        obtain ⟨s3, R3⟩ := R2.put i (as := []) (s := .dat d) ⟨rfl, rv⟩ .nil (fun a m => by simp at m) (fun a m => by simp at m) s2
        rw [← eH]
        exact h (σ.set i (some v)) { W2 with w := W2.w.set i [] } s3 R3 (.set hi)
    | err er ρ1 => rw [e] at h; exact fun c d W' s R r => h c d σ W' s R .refl r
    | bad => rw [e] at h; exact h
theorem ds_set {i : Nat} {x : Str} {pos' : Pos} (hN : X.N.Nodup) (hi : X.N[i]? = some x) (hx : Loc X.env.scope x) (he : DE ct X Wx e F) (hs : swapsWith e (some (.Name x pos')) pos.line X.env = pure false := by rfl) (hf : X.fn x = true ∨ X.env.scope.names.lookup x = some .local := by first | exact .inl rfl | exact .inr rfl | assumption) :
    DS ct X Wx n (.Assign [.Name x pos'] e pos) (sSet n i F) := ps_imp (ps_set hN hi hx he hs hf) set_rd
theorem ds_setD {i : Nat} {x : Str} {pos' : Pos} (hN : X.N.Nodup) (hi : X.N[i]? = some x) (hx : Loc X.env.scope x) (he : DE ct X Wx e F) (hs : swapsWith e (some (.Name x pos')) pos.line X.env = pure false := by rfl) (hf : X.fn x = true ∨ X.env.scope.names.lookup x = some .local := by first | exact .inl rfl | exact .inr rfl | assumption) :
    DS ct X Wx n (.Assign [.Name x pos'] e pos) (sSetD n i F) := ps_imp (ps_set hN hi hx he hs hf) setD_rd
end
/-! ### what a list of one's own becomes -/
section
variable {K : PySem.W.Frag} {ct : CT} {n : Nat} {W0 W W1 W2 : Wd} {σ σ1 : L2.St} {ρ ρ' : Env} {Wx : WX} {Y : Ends}
/-- the list at slot i is written -/
theorem Rep.write (R : Rep K ct W σ ρ) {i : Nat} {xs ys : List DL.D} (h : ρ.getD i .non = .own xs) : ∃ a vs, σ[i]? = some (some (.ref a)) ∧ W.H a = some (.lst vs) ∧ RVs K ct W.I vs xs ∧
    ∀ ws, RVs K ct W.I ws ys → Wst W { W with H := upd W.H a (.lst ws) } ∧ Rep K ct { W with H := upd W.H a (.lst ws) } σ (ρ.set i (.own ys)) := by
  obtain ⟨v, as, h1, h2, h3⟩ := R.at h nofun
  obtain ⟨a, vs, rfl, rfl, n, ha, r⟩ := h3
  obtain ⟨nd, ns⟩ := notin_set R.nd h2
  refine ⟨a, vs, h1, ha, r, fun ws r' => ?_⟩
  have ma : a ∈ W.own := mem_at h2 (by simp)
  have up : ∀ b o, b ≠ a → W.H b = some o → upd W.H a (.lst ws) b = some o := fun b o q e => by rw [upd_ne q]; exact e
  refine ⟨⟨.refl _, fun b o e m => up b o (fun q => m (by rw [q]; exact ma)) e, fun b m => .inl m, fun b o e => .inl e, fun b o e => ?_⟩, fun b o e => ?_, ?_, R.nd⟩
  · by_cases q : b = a
    · rw [q]; exact ⟨_, upd_same⟩
    · exact ⟨o, up b o q e⟩
  · exact up b o (fun q => by rw [q, n] at e; cases e) (R.same b o e)
  · have Rn : Reps K ct W.I W.H (σ.set i none) (ρ.set i .non) (W.w.set i []) := R.reps.set i (o := none) (as := []) (s := .non) rfl
    have Rm := Rn.mono (I' := W.I) (H' := upd W.H a (.lst ws)) (.refl _) (fun _ _ h => h) (fun b m o e => up b o (fun q => ns a (by simp) (by rw [← q]; exact m)) e)
    have Rf := Rm.set i (o := some (.ref a)) (as := [a]) (s := .own ys) ⟨_, rfl, a, ws, rfl, rfl, n, upd_same, r'⟩
    rw [List.set_set, List.set_set, List.set_set] at Rf
    have eσ : σ.set i (some (.ref a)) = σ := by
      have hi : i < σ.length := by
        rcases Nat.lt_or_ge i σ.length with q | q
        · exact q
        · rw [List.getElem?_eq_none q] at h1; cases h1
      rw [List.getElem?_eq_getElem hi] at h1
      have h1' := Option.some.inj h1
      exact List.ext_getElem (by simp) fun j a b => by
        rw [List.getElem_set]; split
        · rename_i q; subst q; exact h1'.symm
        · rfl
    have ew : W.w.set i [a] = W.w := by
      have hi : i < W.w.length := by
        rcases Nat.lt_or_ge i W.w.length with q | q
        · exact q
        · rw [List.getElem?_eq_none q] at h2; cases h2
      rw [List.getElem?_eq_getElem hi] at h2
      have h2' := Option.some.inj h2
      exact List.ext_getElem (by simp) fun j a b => by
        rw [List.getElem_set]; split
        · rename_i q; subst q; exact h2'.symm
        · rfl
    rw [eσ, ew] at Rf
    exact Rf
end
/-- box[k] = e -/
def sSetIx (i : Nat) (F G : Env → Out Vl) : Env → SOut := fun ρ => match (F ρ).bind frz with
  | .ok d ρ1 => match ρ1.getD i .non with
    | .own _ => match G ρ1 with
      | .ok k ρ2 => match lookD k ρ2, ρ2.getD i .non with
        | some (.int j), .own xs => match ixN xs.length j with
          | some m => .nx (ρ2.set i (.own (xs.set m d)))
          | none => .bad
        | _, _ => .bad
      | .err e ρ2 => .er e ρ2
      | .bad => .bad
    | _ => .bad
  | .err e ρ1 => .er e ρ1
  | .bad => .bad
/-- xs.append(e) -/
def sApp (i : Nat) (F : Env → Out Vl) : Env → SOut := fun ρ => match ρ.getD i .non with
  | .own _ => match (F ρ).bind frz with
    | .ok d ρ1 => match ρ1.getD i .non with
      | .own xs => if xs.length < sizeLine then .nx (ρ1.set i (.own (xs ++ [d]))) else .bad
      | _ => .bad
    | .err e ρ1 => .er e ρ1
    | .bad => .bad
  | _ => .bad
section
variable {ct : CT} {X : Cx} {Wx : WX} {n : Nat} {a b e : Expr} {st : Stmt} {sts : List Stmt} {F G : Env → Out Vl} {T : Env → Out Bool} {S U : Env → SOut} {pos : Pos}
theorem frz_noerr {vl : Vl} {ρ ρ' : Env} {e : Er} (h : frz vl ρ = .err e ρ') : False := by
  cases vl <;> simp only [frz] at h <;> split at h <;> cases h
theorem setIx_rd {i : Nat} (Y : Ends) (σ : L2.St) (H : Hp) (h : rdS X.K ct n Wx (sSetIx i F G) Y σ H) : tAsg (rdE X.K ct Wx F) (gSub (tVar i) (rdE X.K ct Wx G) rSetL) Y σ H := by
  obtain ⟨W, ρ, rfl, R, h⟩ := h
  simp only [sSetIx] at h
  refine ⟨W, ρ, rfl, R, ?_⟩
  cases e : F ρ with
  | err er ρ1 => rw [e] at h; exact fun c d W' s R r => h c d σ W' s R .refl r
  | bad => rw [e] at h; exact h
  | ok vl ρ1 =>
    rw [e] at h
    intro v W1 s1 R1 r1
    simp only [Out.bind_ok] at h
    cases ef : frz vl ρ1 with
    | bad => rw [ef] at h; exact h.elim
    | err e ρ' => exact (frz_noerr ef).elim
    | ok d ρ2 =>
      rw [ef] at h
      simp only [] at h
      obtain ⟨W2, eH, s2, R2, rv⟩ := frz_ok s1 R1 r1 ef
      rw [← eH]
      cases eo : ρ2.getD i .non with
      | non => rw [eo] at h; exact h.elim
      | dat _ => rw [eo] at h; exact h.elim
      | obj _ _ => rw [eo] at h; exact h.elim
      | exn _ => rw [eo] at h; exact h.elim
      | own xs0 =>
        rw [eo] at h
        simp only [] at h
        obtain ⟨a, vs0, ha, _⟩ := R2.write (ys := xs0) eo
        refine ⟨.ref a, ha, W2, ρ2, rfl, R2, ?_⟩
        show EPost _ _ _ _ _ (G ρ2) _
        cases eg : G ρ2 with
        | bad => rw [eg] at h; exact h.elim
        | err er ρ3 => rw [eg] at h; exact fun c d W' s R r => h c d σ W' (s2.trans s) R .refl r
        | ok k ρ3 =>
          rw [eg] at h
          simp only [] at h
          intro kv W3 s3 R3 r3
          cases el : lookD k ρ3 with
          | none => rw [el] at h; exact h.elim
          | some kd =>
            rw [el] at h
            cases kd with
            | int j =>
              cases eo' : ρ3.getD i .non with
              | non => rw [eo'] at h; exact h.elim
              | dat _ => rw [eo'] at h; exact h.elim
              | obj _ _ => rw [eo'] at h; exact h.elim
              | exn _ => rw [eo'] at h; exact h.elim
              | own xs =>
                rw [eo'] at h
                simp only [] at h
                cases ex : ixN xs.length j with
                | none => rw [ex] at h; exact h.elim
                | some m =>
                  rw [ex] at h
                  obtain ⟨a', vs, ha', hH, rvs, wr⟩ := R3.write (ys := xs.set m d) eo'
                  have ea : a' = a := by
                    rw [ha] at ha'; cases ha'; rfl
                  subst ea
                  obtain ⟨s4, R4⟩ := wr (vs.set m v) (rvs.set m (rv.mono s3.same))
                  exact ⟨a', vs, j, m, rfl, r3.rl R3 el, hH, by rw [rvs.length]; exact ex, h σ _ ((s2.trans s3).trans s4) R4 .refl⟩
            | none => exact h.elim
            | bool _ => exact h.elim
            | str _ => exact h.elim
            | list _ => exact h.elim
            | tuple _ => exact h.elim
            | dict _ => exact h.elim
theorem ds_setIx {i : Nat} {o ix : Expr} {p1 : Pos} (ho : PE X o (tVar i)) (he : DE ct X Wx e F) (hi : DE ct X Wx ix G) (hs : swapsWithSole [.Subscript o ix p1] e pos.line X.env = pure false := by rfl) (hw : swappedStores [.Subscript o ix p1] e X.env = pure none := by rfl)
    (h1 : (assignEach [.Subscript o ix p1] X.env).map (·.2) = [assign (.Subscript o ix p1) X.env] := by rfl)
    (ha : ∀ v, assign (.Subscript o ix p1) X.env v = (do
      let ov ← holding [v] (eval o X.env)
      let iv ← holding [v, ov] (eval ix X.env)
      standAt p1
      holding [v, ov, iv] (setItem ov iv v)
      release [v, ov, iv] []) := by intro _; rfl) : DS ct X Wx n (.Assign [.Subscript o ix p1] e pos) (sSetIx i F G) :=
  ps_imp (ps_asg he (pg_sub ho hi set_list ha) hs hw h1) setIx_rd
theorem app_rd {i : Nat} (Y : Ends) (σ : L2.St) (H : Hp) (h : rdS X.K ct n Wx (sApp i F) Y σ H) : tDrop (tBM X.K "list" rAppend (tVar i) (tCons (rdE X.K ct Wx F) tNil)) Y σ H := by
  obtain ⟨W, ρ, rfl, R, h⟩ := h
  simp only [sApp] at h
  cases eo : ρ.getD i .non with
  | non => rw [eo] at h; exact h.elim
  | dat _ => rw [eo] at h; exact h.elim
  | obj _ _ => rw [eo] at h; exact h.elim
      | exn _ => rw [eo] at h; exact h.elim
  | own xs0 =>
    rw [eo] at h
    simp only [] at h
    obtain ⟨a, vs0, ha, hH0, _⟩ := R.write (ys := xs0) eo
    refine ⟨.ref a, ha, .inl ⟨rfl, vs0, .of hH0⟩, W, ρ, rfl, R, ?_⟩
    cases e : F ρ with
    | err er ρ1 => rw [e] at h; exact fun c d W' s R r => h c d σ W' s R .refl r
    | bad => rw [e] at h; exact h
    | ok vl ρ1 =>
      rw [e] at h
      intro v W1 s1 R1 r1
      simp only [Out.bind_ok] at h
      cases ef : frz vl ρ1 with
      | bad => rw [ef] at h; exact h.elim
      | err e ρ' => exact (frz_noerr ef).elim
      | ok d ρ2 =>
        rw [ef] at h
        simp only [] at h
        obtain ⟨W2, eH, s2, R2, rv⟩ := frz_ok s1 R1 r1 ef
        rw [← eH]
        cases eo' : ρ2.getD i .non with
        | non => rw [eo'] at h; exact h.elim
        | dat _ => rw [eo'] at h; exact h.elim
        | obj _ _ => rw [eo'] at h; exact h.elim
              | exn _ => rw [eo'] at h; exact h.elim
        | own xs =>
          rw [eo'] at h
          simp only [] at h
          split at h
          · rename_i hz
            obtain ⟨a', vs, ha', hH, rvs, wr⟩ := R2.write (ys := xs ++ [d]) eo'
            have ea : a' = a := by
              rw [ha] at ha'; cases ha'; rfl
            subst ea
            obtain ⟨s4, R4⟩ := wr (vs ++ [v]) (rvs.append (.one rv))
            exact ⟨a', vs, v, rfl, rfl, hH, by rw [rvs.length]; exact hz, h σ _ (s2.trans s4) R4 .refl⟩
          · exact h.elim
theorem ds_app {i : Nat} {x : Str} {apos cpos p1 : Pos} (ho : PE X (.Name x p1) (tVar i)) (he : DE ct X Wx e F) (hs : swapsWith (.Call (.Attribute (.Name x p1) "append" apos) [e] [] cpos) none pos.line X.env = pure false := by rfl)
    (hbase : attributeBase (.Name x p1) "append" X.env (eval (.Name x p1) X.env) = eval (.Name x p1) X.env := by rfl)
    (hfew : ((backTo cpos (starEach [e] X.env)).all (fun x => !x.1) && (backToKw cpos (keywordEach [] X.env)).all (fun x => x.1.isSome)
      && decide ([e].length + ([] : List Keyword).length + (if ([] : List Keyword).isEmpty then 0 else 1) < 30)) = true := by rfl)
    (hline : (apos.endLine == cpos.line) = true := by rfl) (hst : starEach [e] X.env = (false, eval e X.env) :: starEach [] X.env := by rfl) (hplain : (backTo cpos (starEach [] X.env)).any (·.1) = false := by rfl) :
    DS ct X Wx n (.Expr (.Call (.Attribute (.Name x p1) "append" apos) [e] [] cpos) pos) (sApp i F) :=
  ps_imp (ps_expr (pe_bm PySem.F.plainAttrs_list PySem.F.slot_list_append PySem.F.type_list_append mt_append ho (pa_cons he pa_nil hst) hbase hfew hline hst hplain) hs) app_rd
end
end DL
end
section
set_option Elab.async false
set_option linter.all false
set_option maxRecDepth 100000
namespace DL
open PySem PySem.Spec PyProof.Rows L2
/-! ### defs -/
inductive FOut where
  | ret (r : Sl) (outs : Env) | err (e : Er) (outs : Env) | bad
abbrev Fn := Env → FOut
def FPost (K : PySem.W.Frag) (ct : CT) (W : Wd) (vs : List V) (out : FOut) (Q : VK) (E : XK) : Prop :=
  match out with
  | .ret r outs => ∀ v W', Wst W W' → Rep K ct W' (vs.map some) outs → RVl K ct W W' [] v (.sl r) → Q v W'.H
  | .err e outs => ∀ cls d W', Wst W W' → Rep K ct W' (vs.map some) outs → RErr K ct W' cls d e → E cls d W'.H
  | .bad => False
def spF (K : PySem.W.Frag) (ct : CT) (n : Nat) (F : Fn) : Sp := fun vs H Q E => vs.length = n ∧ ∃ W args, W.H = H ∧ Rep K ct W (vs.map some) args ∧ FPost K ct W vs (F args) Q E
/-- a body run on arguments: n parameters, m other names -/
def fin (n : Nat) : SOut → FOut
  | .nx ρ => .ret (.dat .none) (ρ.take n)
  | .rt (.sl s) ρ => .ret s (ρ.take n)
  | .rt (.bor i) ρ => if i < n then .bad else match ρ.getD i .non with
    | .non => .bad
    | s => .ret s (ρ.take n)
  | .er e ρ => .err e (ρ.take n)
  | _ => .bad
def run (n m : Nat) (body : Env → SOut) : Fn := fun args => if args.length = n then fin n (body (args ++ List.replicate m .non)) else .bad
def Ar (n : Nat) (F : Fn) : Prop := ∀ args, args.length ≠ n → F args = .bad
theorem ar_run {n m : Nat} {body : Env → SOut} : Ar n (run n m body) := fun args h => if_neg h
section
variable {K : PySem.W.Frag} {ct : CT} {n : Nat} {W0 W W1 W2 : Wd} {σ σ1 : L2.St} {ρ ρ' : Env} {Wx : WX} {I H : Hp}
theorem Reps.pad {w : List (List Addr)} (h : Reps K ct I H σ ρ w) : ∀ m : Nat, Reps K ct I H (σ ++ List.replicate m none) (ρ ++ List.replicate m .non) (w ++ List.replicate m []) := by
  induction h with
  | nil =>
    intro m
    simp only [List.nil_append]
    induction m with
    | zero => exact .nil
    | succ m ih => exact .cons rfl ih
  | cons h r ih => exact fun m => .cons h (ih m)
theorem flatten_pad (w : List (List Addr)) (m : Nat) : (w ++ List.replicate m []).flatten = w.flatten := by
  rw [List.flatten_append]
  have : (List.replicate m ([] : List Addr)).flatten = [] := by
    induction m with
    | zero => rfl
    | succ m ih => rw [List.replicate_succ, List.flatten_cons, ih]; rfl
  rw [this, List.append_nil]
theorem Reps.take {w : List (List Addr)} (h : Reps K ct I H σ ρ w) : ∀ n : Nat, Reps K ct I H (σ.take n) (ρ.take n) (w.take n) := by
  induction h with
  | nil => intro n; simp only [List.take_nil]; exact .nil
  | cons h r ih =>
    intro n
    cases n with
    | zero => exact .nil
    | succ n => exact .cons h (ih n)
theorem mem_take_flatten {w : List (List Addr)} {n : Nat} {a : Addr} (h : a ∈ (w.take n).flatten) : a ∈ w.flatten := by
  obtain ⟨l, hl, ha⟩ := List.mem_flatten.mp h
  exact List.mem_flatten.mpr ⟨l, List.mem_of_mem_take hl, ha⟩
theorem nodup_take {w : List (List Addr)} {n : Nat} (h : w.flatten.Nodup) : (w.take n).flatten.Nodup := by
  have e : w.flatten = (w.take n).flatten ++ (w.drop n).flatten := by rw [← List.flatten_append, List.take_append_drop]
  rw [e, List.nodup_append] at h
  exact h.1
theorem take_out {w : List (List Addr)} {n i : Nat} {as : List Addr} {a : Addr} (h : w.flatten.Nodup) (hi : ¬ i < n) (e : w[i]? = some as) (m : a ∈ as) : a ∉ (w.take n).flatten := fun m' => by
  have q : w.flatten = (w.take n).flatten ++ (w.drop n).flatten := by rw [← List.flatten_append, List.take_append_drop]
  rw [q, List.nodup_append] at h
  refine h.2.2 a m' a (List.mem_flatten.mpr ⟨as, ?_, m⟩) rfl
  have : (w.drop n)[i - n]? = some as := by
    rw [List.getElem?_drop, show n + (i - n) = i by omega]; exact e
  exact List.mem_of_getElem? this
theorem take_eq_of {n : Nat} {σ σ' : L2.St} (f : Fix n σ σ') (hl : σ'.length = σ.length) : σ'.take n = σ.take n := by
  refine List.ext_getElem? fun i => ?_
  rw [List.getElem?_take, List.getElem?_take]
  split
  · exact f i (by assumption)
  · rfl
/-- the world that is left of the parameters -/
theorem Rep.left (R : Rep K ct W σ ρ) (s : Wst W0 W) (n : Nat) : Wst W0 { W with w := W.w.take n } ∧ Rep K ct { W with w := W.w.take n } (σ.take n) (ρ.take n) :=
  ⟨⟨s.same, s.frame, fun b m => s.ofr b (mem_take_flatten m), s.ifr, s.alive⟩, R.same, R.reps.take n, nodup_take R.nd⟩
end
section
variable {P : Program} {w : World} {K : PySem.W.Frag} {mg : Str → Option Value} {base : Heap} {ct : CT}
theorem spF_len {n : Nat} {F : Fn} {ps : List Str} (h : ps.length = n) : ∀ vs H Q E, spF K ct n F vs H Q E → vs.length = ps.length := fun _ _ _ _ q => q.1.trans h.symm
/-- a def by its body -/
theorem fnF {x qual : Str} {st : Stmt} {f : Addr} {fd : FuncData} {N ps : List Str} {k n m : Nat} {body : Env → SOut} (F : Fun K x qual st f fd) (S : FnScope N ps (defScope st)) (hn : ps.length = n) (hm : N.length = n + m)
    (hb : ∀ (cdv : Value) (A : Around) (outer : List PySem.Env) (s : Shared) (H : Hp) (E : XK), Room k (A.deeper (envOfC qual (defScope st) s.heap.objs.size f cdv)) →
      DB ct (cxOf (L2.CX P w) P w K mg base N qual (defScope st) f cdv A outer s H E) (fun cls d _ H => E cls d H) n (defBody st) body) :
    FnOk P w K mg base (L2.CX P w) (k + 1) f fd ps (spF K ct n (run n m body)) := by
  refine F.okX S (spF_len hn) fun cdv A outer s H vs Q E hr h => ⟨_, hb cdv A outer s H E hr, ?_⟩
  obtain ⟨hl, W, args, rfl, R, h⟩ := h
  have eN : N.length - vs.length = m := by omega
  unfold L2.start
  rw [eN]
  have ow : (⟨W.I, W.H, W.w ++ List.replicate m []⟩ : Wd).own = W.own := flatten_pad _ _
  have R0 : Rep K ct ⟨W.I, W.H, W.w ++ List.replicate m []⟩ (vs.map some ++ List.replicate m none) (args ++ List.replicate m .non) :=
    ⟨R.same, R.reps.pad m, by rw [ow]; exact R.nd⟩
  have al : args.length = n := by
    have := R.reps.length.1
    rw [List.length_map] at this
    omega
  have st0 : ∀ {W'}, Wst ⟨W.I, W.H, W.w ++ List.replicate m []⟩ W' → Wst W W' := fun s => ⟨s.same, fun b o e mm => s.frame b o e (by rw [ow]; exact mm), fun b mm => by have := s.ofr b mm; rwa [ow] at this, fun b o e => by have := s.ifr b o e; rwa [ow] at this, s.alive⟩
  have sl : ∀ {σ' : L2.St} {W' : Wd} {ρ' : Env}, Rep K ct W' σ' ρ' → Fix n (vs.map some ++ List.replicate m none) σ' → σ'.take n = vs.map some := fun {σ' W' ρ'} R' f => by
    refine List.ext_getElem? fun i => ?_
    rw [List.getElem?_take]
    split
    · rename_i hi
      rw [f i hi, List.getElem?_append_left (by rw [List.length_map]; omega)]
    · rw [List.getElem?_eq_none (by rw [List.length_map]; omega)]
  refine ⟨⟨W.I, W.H, W.w ++ List.replicate m []⟩, _, rfl, R0, ?_⟩
  unfold run at h
  rw [if_pos al] at h
  cases eb : body (args ++ List.replicate m .non) with
  | bad => rw [eb] at h; exact h.elim
  | bk ρ => rw [eb] at h; exact h.elim
  | ct ρ => rw [eb] at h; exact h.elim
  | nx ρ =>
    rw [eb] at h
    intro σ' W' s' R' f'
    obtain ⟨s2, R2⟩ := R'.left (st0 s') n
    rw [sl R' f'] at R2
    exact h .non { W' with w := W'.w.take n } s2 R2 (.dat .non)
  | er e ρ =>
    rw [eb] at h
    intro cls d σ' W' s' R' f' re
    obtain ⟨s2, R2⟩ := R'.left (st0 s') n
    rw [sl R' f'] at R2
    exact h cls d { W' with w := W'.w.take n } s2 R2 re
  | rt vl ρ =>
    rw [eb] at h
    intro v σ' W' s' R' f' rv
    obtain ⟨s2, R2⟩ := R'.left (st0 s') n
    rw [sl R' f'] at R2
    cases vl with
    | sl sl' =>
      obtain ⟨nn, as, q, nd, fr⟩ := rv
      exact h v { W' with w := W'.w.take n } s2 R2 ⟨nn, as, q, nd, fun a mm => ⟨fun m' => (fr a mm).1 (mem_take_flatten m'), (fr a mm).2.elim .inl fun z => .inr (by rw [ow] at z; exact z)⟩⟩
    | bor i =>
      simp only [fin] at h
      split at h
      · exact h.elim
      · rename_i hi
        have nn : ρ.getD i .non ≠ .non := fun e => by rw [e] at h; exact h.elim
        obtain ⟨u, as, h1, h2, h3⟩ := R'.at rfl nn
        have eu : u = v := by
          have rv' : σ'[i]? = some (some v) := rv
          rw [h1] at rv'; cases rv'; rfl
        subst eu
        have key : RVl K ct W { W' with w := W'.w.take n } [] u (.sl (ρ.getD i .non)) := by
          refine ⟨nn, as, h3, (notin_set R'.nd h2).1, fun a mm => ⟨take_out R'.nd hi h2 mm, ?_⟩⟩
          exact ((st0 s').ofr a (mem_at h2 mm)).elim .inr .inl
        cases es : ρ.getD i .non with
        | non => exact absurd es nn
        | dat d => rw [es] at h key; exact h u { W' with w := W'.w.take n } s2 R2 key
        | own xs => rw [es] at h key; exact h u { W' with w := W'.w.take n } s2 R2 key
        | obj c fs => rw [es] at h key; exact h u { W' with w := W'.w.take n } s2 R2 key
        | exn er => rw [es] at h key; exact h u { W' with w := W'.w.take n } s2 R2 key
end
/-! ### a call: data; at most one place holds a list or an object that the callee may change -/
/-- all arguments come to stand -/
def dCall0 (F : Fn) (A : Env → Out (List D)) : Env → Out Vl := fun ρ => (A ρ).bind fun ds ρ1 =>
  match F (ds.map .dat) with
  | .ret r _ => match r with
    | .non => .bad
    | s => .ok (.sl s) ρ1
  | .err e _ => .err e ρ1
  | .bad => .bad
def lookS : Vl → Env → Sl
  | .sl s, _ => s
  | .bor i, ρ => ρ.getD i .non
def putS : Vl → Env → Sl → Env
  | .sl _, ρ, _ => ρ
  | .bor i, ρ, s => match ρ.getD i .non with
    | .own _ => ρ.set i s
    | .obj _ _ => ρ.set i s
    | _ => ρ
/-- the first argument as it is -/
def dCall1 (F : Fn) (B : Env → Out Vl) (A : Env → Out (List D)) : Env → Out Vl := fun ρ => (B ρ).bind fun b ρ1 => (A ρ1).bind fun ds ρ2 =>
  match F (lookS b ρ2 :: ds.map .dat) with
  | .ret r outs => match r with
    | .non => .bad
    | s => .ok (.sl s) (putS b ρ2 (outs.getD 0 .non))
  | .err e outs => .err e (putS b ρ2 (outs.getD 0 .non))
  | .bad => .bad
section
variable {K : PySem.W.Frag} {ct : CT} {n : Nat} {W0 W W1 W2 : Wd} {σ σ1 : L2.St} {ρ ρ' : Env} {Wx : WX} {I H : Hp}
theorem reps_dat : ∀ {vs : List V} {ds : List D}, RVs K ct I vs ds → Reps K ct I H (vs.map some) (ds.map .dat) (vs.map fun _ => [])
  | _, _, .nil => .nil
  | _, _, .cons h r => .cons ⟨_, rfl, rfl, h⟩ (reps_dat r)
theorem flatten_nils (vs : List V) : (vs.map fun _ => ([] : List Addr)).flatten = [] := by
  induction vs with
  | nil => rfl
  | cons v vs ih => rw [List.map_cons, List.flatten_cons, ih]; rfl
/-- behind a callee that owned cas, none of which are among ours now -/
theorem Rep.after (R : Rep K ct W σ ρ) {W' : Wd} (s0 : Wst W0 W) (hw : ∀ a, a ∈ W1.own → a ∉ W.own ∧ Fr0 W0 a) (eI : W1.I = W.I) (eH : W1.H = W.H) (s : Wst W1 W') (R' : Same W'.I W'.H) :
    Wst W0 ⟨W'.I, W'.H, W.w⟩ ∧ Rep K ct ⟨W'.I, W'.H, W.w⟩ σ ρ := by
  have fr : ∀ b o, W.H b = some o → b ∉ W1.own → W'.H b = some o := fun b o e m => s.frame b o (by rw [eH]; exact e) m
  have nI : ∀ b, b ∈ W.own → W.I b = none → W'.I b = none := fun b m e => by
    cases q : W'.I b with
    | none => rfl
    | some o =>
      rcases s.ifr b o q with h1 | h1 | h1
      · rw [eI, e] at h1; cases h1
      · exact absurd m (hw b h1).1
      · obtain ⟨_, o', ho⟩ := R.live m
        rw [eH, ho] at h1; cases h1
  have fr0 : ∀ b o, W0.H b = some o → b ∉ W0.own → b ∉ W1.own := fun b o e m m1 => by
    rcases (hw b m1).2 with q | q
    · rw [e] at q; cases q
    · exact m q
  refine ⟨⟨s0.same.trans fun b o e => s.same b o (by rw [eI]; exact e), fun b o e m => fr b o (s0.frame b o e m) (fr0 b o e m), s0.ofr, fun b o e => ?_, fun b o e => ?_⟩, R', R.reps.mono (fun b o e => s.same b o (by rw [eI]; exact e)) nI fun b m o e => fr b o e fun m1 => (hw b m1).1 m, R.nd⟩
  · rcases s.ifr b o e with h1 | h1 | h1
    · rw [eI] at h1; exact s0.ifr b o h1
    · exact (hw b h1).2.elim (fun q => .inr (.inr q)) fun q => .inr (.inl q)
    · rw [eH] at h1; exact .inr (.inr (dead s0 h1))
  · obtain ⟨o1, h1⟩ := s0.alive b o e
    exact s.alive b o1 (by rw [eH]; exact h1)
/-- a callee's result is nobody's -/
theorem RVl.after {v : V} {r : Sl} {W' : Wd} (R : Rep K ct W σ ρ) (s0 : Wst W0 W) (hw : ∀ a, a ∈ W1.own → a ∉ W.own ∧ Fr0 W0 a) (eH : W1.H = W.H) (h : RVl K ct W1 W' [] v (.sl r)) :
    r ≠ .non ∧ ∃ as, RSl K ct W'.I W'.H v as r ∧ as.Nodup ∧ ∀ a ∈ as, a ∉ W'.own ∧ a ∉ W.own ∧ Fr0 W0 a := by
  obtain ⟨n, as, q, nd, f⟩ := h
  refine ⟨n, as, q, nd, fun a m => ⟨(f a m).1, ?_⟩⟩
  rcases (f a m).2 with e | z
  · rw [eH] at e
    refine ⟨fun z => ?_, .inl (dead s0 e)⟩
    obtain ⟨_, o, ho⟩ := R.live (a := a) z
    rw [e] at ho; cases ho
  · exact ⟨(hw a z).1, (hw a z).2⟩
theorem set_self {α : Type} {l : List α} {i : Nat} {x : α} (h : l[i]? = some x) : l.set i x = l := by
  have hi : i < l.length := by
    rcases Nat.lt_or_ge i l.length with q | q
    · exact q
    · rw [List.getElem?_eq_none q] at h; cases h
  rw [List.getElem?_eq_getElem hi] at h
  have h1 := Option.some.inj h
  exact List.ext_getElem (by simp) fun j a b => by
    rw [List.getElem_set]; split
    · rename_i q; subst q; exact h1.symm
    · rfl
/-- a slot is given away -/
theorem Rep.give (R : Rep K ct W σ ρ) (s0 : Wst W0 W) (i : Nat) : Wst W0 { W with w := W.w.set i [] } ∧ Rep K ct { W with w := W.w.set i [] } (σ.set i none) (ρ.set i .non) :=
  ⟨⟨s0.same, s0.frame, fun b m => s0.ofr b (flatten_set_sub m), s0.ifr, s0.alive⟩, R.same, R.reps.set i (o := none) (as := []) (s := .non) rfl, nodup_set i R.nd .nil fun a m => by simp at m⟩
end
section
variable {ct : CT} {X : Cx} {Wx : WX} {n k : Nat} {f : Addr} {fd : FuncData} {ps : List Str} {F : Fn} {x : Str} {p pos : Pos} {e : Expr} {es : List Expr} {A : Env → Out (List D)} {B : Env → Out Vl}
theorem passesAt_of (tk : Takes X Wx) (σ : L2.St) : PassesAt (L2.CX X.prog X.w) X σ (fun cls d H => Wx cls d σ H) := passAt tk σ
theorem call0_rd (hF : Ar n F) (σ : L2.St) (H : Hp) (Q : VK) (h : rdE X.K ct Wx (dCall0 F A) σ H Q) : tCallSD (spF X.K ct n F) [] (fun σ cls d H => Wx cls d σ H) (rdA X.K ct Wx A) σ H Q := by
  obtain ⟨W, ρ, rfl, R, h⟩ := h
  refine ⟨W, ρ, rfl, R, APost.bindE h fun ds ρ1 vs W1 s1 R1 r1 h1 => ?_⟩
  rw [List.append_nil]
  have ow : (⟨W1.I, W1.H, vs.map fun _ => []⟩ : Wd).own = [] := flatten_nils vs
  have hw : ∀ a, a ∈ (⟨W1.I, W1.H, vs.map fun _ => []⟩ : Wd).own → a ∉ W1.own ∧ Fr0 W a := fun a m => by rw [ow] at m; simp at m
  refine ⟨?_, ⟨W1.I, W1.H, vs.map fun _ => []⟩, ds.map .dat, rfl, ⟨R1.same, reps_dat r1, by rw [ow]; exact .nil⟩, ?_⟩
  · rcases Nat.lt_trichotomy vs.length n with q | q | q
    · rw [hF _ (by rw [List.length_map, ← r1.length]; omega)] at h1; exact h1.elim
    · exact q
    · rw [hF _ (by rw [List.length_map, ← r1.length]; omega)] at h1; exact h1.elim
  · cases e : F (ds.map .dat) with
    | bad => rw [e] at h1; exact h1
    | err er outs =>
      rw [e] at h1
      intro cls d W' s' R' re
      obtain ⟨s2, R2⟩ := R1.after s1 hw rfl rfl s' R'.same
      exact h1 cls d ⟨W'.I, W'.H, W1.w⟩ s2 R2 re
    | ret r outs =>
      rw [e] at h1
      intro v W' s' R' rv
      obtain ⟨s2, R2⟩ := R1.after s1 hw rfl rfl s' R'.same
      obtain ⟨nn, as, q, nd, fr⟩ := rv.after R1 s1 hw rfl
      have key : RVl X.K ct W ⟨W'.I, W'.H, W1.w⟩ σ v (.sl r) := ⟨nn, as, q, nd, fun a m => (fr a m).2⟩
      cases r with
      | non => exact absurd rfl nn
      | dat d => exact h1 v ⟨W'.I, W'.H, W1.w⟩ s2 R2 key
      | own xs => exact h1 v ⟨W'.I, W'.H, W1.w⟩ s2 R2 key
      | obj c fs => exact h1 v ⟨W'.I, W'.H, W1.w⟩ s2 R2 key
      | exn er => exact h1 v ⟨W'.I, W'.H, W1.w⟩ s2 R2 key
theorem de_call0 (Fk : FnOk X.prog X.w X.K X.mg X.base (L2.CX X.prog X.w) k f fd ps (spF X.K ct n F)) (hF : Ar n F) (hr : Room k X.A) (hg : Gl X x) (hm : X.mg x = some (.ref f)) (hk : PySem.W.keepIn X.K (.ref f) = true) (hb : Binds X.K fd ps []) (tk : Takes X Wx)
    (ha : DA ct X Wx (e :: es) A) (hdb : (x == ("__debug__" : Str)) = false := by decide) (he : starEach (e :: es) X.env = (false, eval e X.env) :: starEach es X.env := by rfl) (hpl : (backTo pos (starEach es X.env)).any (·.1) = false := by rfl) :
    DE ct X Wx (.Call (.Name x p) (e :: es) [] pos) (dCall0 F A) :=
  pe_imp (pe_callSD (E := fun σ cls d H => Wx cls d σ H) Fk hr hg hm hk hb .nil (fun σ => passAt tk σ) ha hdb he hpl) (call0_rd hF)
theorem call1_rd (hF : Ar n F) (σ : L2.St) (H : Hp) (Q : VK) (h : rdE X.K ct Wx (dCall1 F B A) σ H Q) : tCallSD (spF X.K ct n F) [] (fun σ cls d H => Wx cls d σ H) (tCons (rdE X.K ct Wx B) (rdA X.K ct Wx A)) σ H Q := by
  obtain ⟨W, ρ, rfl, R, h⟩ := h
  refine ⟨W, ρ, rfl, R, EPost.bind h fun b ρ1 bv W1 s1 R1 r1 h1 => ⟨W1, ρ1, rfl, R1, ?_⟩⟩
  -- the other arguments
  suffices hs : ∀ ds ρ2 vs W2, Wst W1 W2 → Rep X.K ct W2 σ ρ2 → RVs X.K ct W2.I vs ds → EPost X.K ct W σ Wx (match F (lookS b ρ2 :: ds.map .dat) with
      | .ret r outs => match r with
        | .non => .bad
        | s => .ok (.sl s) (putS b ρ2 (outs.getD 0 .non))
      | .err e outs => .err e (putS b ρ2 (outs.getD 0 .non))
      | .bad => .bad) Q → spF X.K ct n F ((bv :: vs) ++ []) W2.H Q (fun cls d H => Wx cls d σ H) by
    cases ea : A ρ1 with
    | bad => rw [ea] at h1; exact h1.elim
    | err er ρ2 => rw [ea] at h1; exact fun c d W' s' R r => h1 c d W' (s1.trans s') R r
    | ok ds ρ2 =>
      rw [ea] at h1
      exact fun vs W2 s2 R2 r2 => hs ds ρ2 vs W2 s2 R2 r2 h1
  intro ds ρ2 vs W2 s2 R2 r2 h2
  rw [List.append_nil]
  have s02 := s1.trans s2
  have r1' := r1.keep s2
  have hlen : (bv :: vs).length = n := by
    rcases Nat.lt_trichotomy (bv :: vs).length n with q | q | q
    · rw [hF _ (by rw [List.length_cons, List.length_map, ← r2.length]; rw [List.length_cons] at q; omega)] at h2; exact h2.elim
    · exact q
    · rw [hF _ (by rw [List.length_cons, List.length_map, ← r2.length]; rw [List.length_cons] at q; omega)] at h2; exact h2.elim
  refine ⟨hlen, ?_⟩
  -- what the callee owns
  suffices hq : ∀ (as : List Addr) (Wr : Wd) (σr : L2.St) (ρr : Env), RSo X.K ct W2.I W2.H (some bv) as (lookS b ρ2) → as.Nodup → Wr.I = W2.I → Wr.H = W2.H → Wst W Wr → Rep X.K ct Wr σr ρr → (∀ a ∈ as, a ∉ Wr.own ∧ Fr0 W a) →
      (∀ (W' : Wd) (bs : List Addr) (s : Sl), RSo X.K ct W'.I W'.H (some bv) bs s → bs.Nodup → (∀ a ∈ bs, a ∉ Wr.own ∧ Fr0 W a) → Wst W ⟨W'.I, W'.H, Wr.w⟩ → Rep X.K ct ⟨W'.I, W'.H, Wr.w⟩ σr ρr →
        ∃ w', Wst W ⟨W'.I, W'.H, w'⟩ ∧ Rep X.K ct ⟨W'.I, W'.H, w'⟩ σ (putS b ρ2 s) ∧ ∀ a ∈ w'.flatten, a ∈ Wr.own ∨ a ∈ bs) →
      ∃ W_1 args, W_1.H = W2.H ∧ Rep X.K ct W_1 ((bv :: vs).map some) args ∧ FPost X.K ct W_1 (bv :: vs) (F args) Q fun cls d H => Wx cls d σ H by
    cases b with
    | sl s =>
      obtain ⟨nn, as, q, nd, fr⟩ := r1'
      refine hq as W2 σ ρ2 (.of q) nd rfl rfl s02 R2 fr fun W' bs s' _ _ _ s3 R3 => ⟨W2.w, s3, R3, fun a m => .inl m⟩
    | bor i =>
      have hi : σ[i]? = some (some bv) := r1'
      have look : ∀ s, ρ2.getD i .non = s → s ≠ .non → ∃ as, W2.w[i]? = some as ∧ RSl X.K ct W2.I W2.H bv as s := fun s e nn => by
        obtain ⟨v, as, h1, h2, h3⟩ := R2.at e nn
        rw [hi] at h1; cases h1
        exact ⟨as, h2, h3⟩
      have own : ∀ s, ρ2.getD i .non = s → s ≠ .non → (∀ t, putS (.bor i) ρ2 t = ρ2.set i t) → ∃ W_1 args, W_1.H = W2.H ∧ Rep X.K ct W_1 ((bv :: vs).map some) args ∧ FPost X.K ct W_1 (bv :: vs) (F args) Q fun cls d H => Wx cls d σ H := fun s e nn hput => by
        obtain ⟨as, hw, q⟩ := look s e nn
        obtain ⟨nd, ns⟩ := notin_set R2.nd hw
        obtain ⟨s3, R3⟩ := R2.give s02 i
        refine hq as { W2 with w := W2.w.set i [] } (σ.set i none) (ρ2.set i .non) (by rw [show lookS (.bor i) ρ2 = s from e]; exact .of q) nd rfl rfl s3 R3 (fun a m => ⟨ns a m, (s02.ofr a (mem_at hw m)).elim .inr .inl⟩) fun W' bs t ht bnd hb s4 R4 => ?_
        refine ⟨W2.w.set i bs, ?_⟩
        have Rf := R4.reps.set i ht
        have e1 : ((W2.w.set i []).set i bs) = W2.w.set i bs := List.set_set _
        have e2 : ((σ.set i none).set i (some bv)) = σ := by rw [List.set_set]; exact set_self hi
        have e3 : ((ρ2.set i .non).set i t) = ρ2.set i t := List.set_set _
        have Rf : Reps X.K ct W'.I W'.H σ (ρ2.set i t) (W2.w.set i bs) := by
          have := Rf
          rw [e2, e3] at this
          rw [← e1]; exact this
        refine ⟨⟨s4.same, s4.frame, fun a m => ?_, s4.ifr, s4.alive⟩, ⟨R4.same, by rw [hput]; exact Rf, nodup_set i R2.nd bnd fun a m => (hb a m).1⟩, fun a m => ?_⟩
        · obtain ⟨l, hl, ha⟩ := List.mem_flatten.mp m
          rcases List.mem_or_eq_of_mem_set hl with z | z
          · exact s02.ofr a (List.mem_flatten.mpr ⟨l, z, ha⟩)
          · rw [z] at ha; exact (hb a ha).2.elim .inr .inl
        · rw [← e1] at m
          obtain ⟨l, hl, ha⟩ := List.mem_flatten.mp m
          rcases List.mem_or_eq_of_mem_set hl with z | z
          · exact .inl (List.mem_flatten.mpr ⟨l, z, ha⟩)
          · rw [z] at ha; exact .inr ha
      cases es : ρ2.getD i .non with
      | non =>
        refine hq [] W2 σ ρ2 (by rw [show lookS (.bor i) ρ2 = .non from es]; exact rfl) .nil rfl rfl s02 R2 (fun a m => by simp at m) fun W' bs t _ _ _ s3 R3 => ⟨W2.w, s3, by rw [show putS (.bor i) ρ2 t = ρ2 by simp only [putS, es]]; exact R3, fun a m => .inl m⟩
      | dat d =>
        obtain ⟨as, hw, q⟩ := look _ es nofun
        refine hq [] W2 σ ρ2 (by rw [show lookS (.bor i) ρ2 = .dat d from es]; exact ⟨bv, rfl, rfl, q.2⟩) .nil rfl rfl s02 R2 (fun a m => by simp at m) fun W' bs t _ _ _ s3 R3 => ⟨W2.w, s3, by rw [show putS (.bor i) ρ2 t = ρ2 by simp only [putS, es]]; exact R3, fun a m => .inl m⟩
      | own xs => exact own _ es nofun fun t => by simp only [putS, es]
      | obj c fs => exact own _ es nofun fun t => by simp only [putS, es]
      | exn er =>
        obtain ⟨as, hw, q⟩ := look _ es nofun
        refine hq [] W2 σ ρ2 (by rw [show lookS (.bor i) ρ2 = .exn er from es]; exact ⟨bv, rfl, rfl, q.2⟩) .nil rfl rfl s02 R2 (fun a m => by simp at m) fun W' bs t _ _ _ s3 R3 => ⟨W2.w, s3, by rw [show putS (.bor i) ρ2 t = ρ2 by simp only [putS, es]]; exact R3, fun a m => .inl m⟩
  intro as Wr σr ρr hb nd eI eH s3 R3 hdis hback
  have ow : (⟨W2.I, W2.H, as :: vs.map fun _ => []⟩ : Wd).own = as := by
    show (as :: vs.map fun _ => ([] : List Addr)).flatten = as
    rw [List.flatten_cons, flatten_nils, List.append_nil]
  have hw : ∀ a, a ∈ (⟨W2.I, W2.H, as :: vs.map fun _ => []⟩ : Wd).own → a ∉ Wr.own ∧ Fr0 W a := fun a m => by rw [ow] at m; exact hdis a m
  refine ⟨⟨W2.I, W2.H, as :: vs.map fun _ => []⟩, lookS b ρ2 :: ds.map .dat, rfl, ⟨R2.same, .cons hb (reps_dat r2), by rw [ow]; exact nd⟩, ?_⟩
  -- how the first place is taken back
  have back : ∀ {W' : Wd} {outs : Env}, Wst ⟨W2.I, W2.H, as :: vs.map fun _ => []⟩ W' → Rep X.K ct W' ((bv :: vs).map some) outs →
      ∃ w', Wst W ⟨W'.I, W'.H, w'⟩ ∧ Rep X.K ct ⟨W'.I, W'.H, w'⟩ σ (putS b ρ2 (outs.getD 0 .non)) ∧ ∀ a ∈ w'.flatten, a ∈ Wr.own ∨ a ∈ W'.own := fun {W' outs} s' R' => by
    obtain ⟨s4, R4⟩ := R3.after s3 hw (by rw [eI]) (by rw [eH]) s' R'.same
    obtain ⟨I', H', w'⟩ := W'
    have rr := R'.reps
    have rnd := R'.nd
    cases rr with
    | cons h r =>
      rename_i s0 ρ0 bs w0
      have fl : (bs :: w0).flatten.Nodup := rnd
      rw [List.flatten_cons, List.nodup_append] at fl
      have mem : ∀ a ∈ bs, a ∈ (⟨I', H', bs :: w0⟩ : Wd).own := fun a m => by
        show a ∈ (bs :: w0).flatten
        rw [List.flatten_cons]; exact List.mem_append_left _ m
      obtain ⟨w1, s5, R5, q⟩ := hback ⟨I', H', bs :: w0⟩ bs s0 h fl.1 (fun a m => by
        rcases s'.ofr a (mem a m) with z | z
        · exact hw a z
        · refine ⟨fun z' => ?_, .inl (dead s02 z)⟩
          obtain ⟨_, o, ho⟩ := R3.live (a := a) z'
          rw [eH] at ho
          rw [show W2.H a = none from z] at ho; cases ho) s4 R4
      exact ⟨w1, s5, R5, fun a m => (q a m).imp id (mem a)⟩
  cases e : F (lookS b ρ2 :: ds.map .dat) with
  | bad => rw [e] at h2; exact h2
  | err er outs =>
    rw [e] at h2
    intro cls d W' s' R' re
    obtain ⟨w', s5, R5, _⟩ := back s' R'
    exact h2 cls d ⟨W'.I, W'.H, w'⟩ s5 R5 re
  | ret r outs =>
    rw [e] at h2
    intro v W' s' R' rv
    obtain ⟨w', s5, R5, hq⟩ := back s' R'
    obtain ⟨nn, as', q, nd', fr⟩ := rv.after R3 s3 hw (by rw [eH])
    have key : RVl X.K ct W ⟨W'.I, W'.H, w'⟩ σ v (.sl r) := ⟨nn, as', q, nd', fun a m => ⟨fun z => (hq a z).elim (fr a m).2.1 (fr a m).1, (fr a m).2.2⟩⟩
    cases r with
    | non => exact absurd rfl nn
    | dat d => exact h2 v ⟨W'.I, W'.H, w'⟩ s5 R5 key
    | own xs => exact h2 v ⟨W'.I, W'.H, w'⟩ s5 R5 key
    | obj c fs => exact h2 v ⟨W'.I, W'.H, w'⟩ s5 R5 key
    | exn er => exact h2 v ⟨W'.I, W'.H, w'⟩ s5 R5 key
theorem de_call1 (Fk : FnOk X.prog X.w X.K X.mg X.base (L2.CX X.prog X.w) k f fd ps (spF X.K ct n F)) (hF : Ar n F) (hr : Room k X.A) (hg : Gl X x) (hm : X.mg x = some (.ref f)) (hk : PySem.W.keepIn X.K (.ref f) = true) (hb : Binds X.K fd ps []) (tk : Takes X Wx)
    (h1 : DE ct X Wx e B) (ha : DA ct X Wx es A) (hdb : (x == ("__debug__" : Str)) = false := by decide) (he : starEach (e :: es) X.env = (false, eval e X.env) :: starEach es X.env := by rfl) (hpl : (backTo pos (starEach es X.env)).any (·.1) = false := by rfl) :
    DE ct X Wx (.Call (.Name x p) (e :: es) [] pos) (dCall1 F B A) :=
  pe_imp (pe_callSD (E := fun σ cls d H => Wx cls d σ H) Fk hr hg hm hk hb .nil (fun σ => passAt tk σ) (pa_cons h1 ha he) hdb he hpl) (call1_rd hF)
end
end DL
end
section
set_option Elab.async false
set_option linter.all false
set_option maxRecDepth 100000
namespace DL
open PySem PySem.Spec PyProof.Rows L2
/-! ### what is walked -/
/-- what a walk gives at a turn: the item that stands there, or a new tuple of such -/
def YD (K : PySem.W.Frag) (ct : CT) (I H : Hp) (x : V) (H' : Hp) (d : D) : Prop :=
  (H' = H ∧ RV K ct I x d) ∨ ∃ T ws es, x = .ref T ∧ H T = none ∧ H' = upd H T (.tup ws) ∧ d = .tuple es ∧ RVs K ct I ws es
structure WalkD (K : PySem.W.Frag) (ct : CT) (J : It) (ds : List D) (I : Hp) : Prop where
  goes : ∀ i H, i < ds.length → Same I H → J.go i H
  stops : ∀ H, Same I H → J.stop ds.length H
  yields : ∀ i H x H', i < ds.length → Same I H → J.yld i H x H' → ∃ d, ds[i]? = some d ∧ YD K ct I H x H' d
def IPost (K : PySem.W.Frag) (ct : CT) (W : Wd) (σ : L2.St) (Wx : WX) (out : Out (List D)) (R : It → Hp → Prop) : Prop :=
  match out with
  | .ok ds ρ' => ∀ J W', Wst W W' → Rep K ct W' σ ρ' → WalkD K ct J ds W'.I → R J W'.H
  | .err e ρ' => ∀ cls d W', Wst W W' → Rep K ct W' σ ρ' → RErr K ct W' cls d e → Wx cls d σ W'.H
  | .bad => False
def rdI (K : PySem.W.Frag) (ct : CT) (Wx : WX) (F : Env → Out (List D)) : TI := fun σ H R => ∃ W ρ, W.H = H ∧ Rep K ct W σ ρ ∧ IPost K ct W σ Wx (F ρ) R
def DI (ct : CT) (X : Cx) (Wx : WX) (tg iter : Expr) (F : Env → Out (List D)) : Prop := PI X tg iter (rdI X.K ct Wx F)
theorem pi_imp {X : Cx} {tg e : Expr} {t t' : TI} (h : PI X tg e t) (i : ∀ σ H R, t' σ H R → t σ H R) : PI X tg e t' := ⟨fun pins s σ H R I q => h.run pins s σ H R I (i σ H R q)⟩
/-- a list or a tuple -/
def iSeq (K : PySem.W.Frag) (tl : TE) : TI := fun σ H R => tl σ H fun x H1 => ∃ a, x = .ref a ∧ (((∃ xs, SqL K H1 a xs) ∧ R (Itl K a) H1) ∨ ((∃ xs, SqT K H1 a xs) ∧ R (Itt K a) H1))
theorem pi_seq {X : Cx} {tg l : Expr} {tl : TE} (hl : PE X l tl) : PI X tg l (iSeq X.K tl) := by
  constructor
  intro pins s σ H R J0 hyp
  apply thn (hl.run pins s σ H _ J0 hyp)
  rintro v z ⟨x, Ha, Ja, rx, a, rfl, ask⟩
  obtain rfl : v = Value.ref a := rx
  have new : z.heap.objs.size ≤ z.heap.objs.size := Nat.le_refl _
  have free : Ha z.heap.objs.size = none := Ja.hok.fresh new
  rcases ask with ⟨⟨xs, here⟩, done⟩ | ⟨⟨xs, here⟩, done⟩
  · obtain ⟨its, rv, shape, few⟩ := Ja.list here
    apply wpAny_pyIter_list shape.isList
    refine ⟨z.heap.objs.size, [z.heap.objs.size], _, _, Ha, rfl, Ja.kept (t' := z.toks) (fun b o e => Heap.get?_push_of_some _ e), turn_list a _, ⟨_, Heap.get?_push_size _ rfl, rfl, rfl⟩, ?_, done⟩
    intro b mem
    rw [List.mem_singleton] at mem
    exact mem ▸ Ja.fpOk new free
  · obtain ⟨its, rv, shape, few⟩ := Ja.tuple here
    have shape' : z.heap.IsTuple a its.toArray := shape
    apply wpAny_pyIter_tuple shape'
    refine ⟨z.heap.objs.size, [z.heap.objs.size], _, _, Ha, rfl, Ja.kept (t' := z.toks) (fun b o e => Heap.get?_push_of_some _ e), turn_tuple a _, ⟨_, Heap.get?_push_size _ rfl, rfl, rfl⟩, ?_, done⟩
    intro b mem
    rw [List.mem_singleton] at mem
    exact mem ▸ Ja.fpOk new free
def seqD : D → Option (List D)
  | .list ds => some ds
  | .tuple ds => some ds
  | _ => none
def dIt (F : Env → Out Vl) : Env → Out (List D) := fun ρ => (F ρ).bind fun x ρ1 => (frz x ρ1).bind fun d ρ2 =>
  match seqD d with
  | some ds => .ok ds ρ2
  | none => .bad
def rngD (lo : Int) (n : Nat) : List D := (List.range n).map fun (k : Nat) => PyData.int (lo + (k : Int))
def inR (j : Int) : Bool := decide (-(2 ^ 62) ≤ j ∧ j < 2 ^ 62)
def dRng1 : List D → Option (List D)
  | [.int j] => if inR j then some (rngD 0 j.toNat) else none
  | _ => none
def dRng2 : List D → Option (List D)
  | [.int i, .int j] => if inR i ∧ inR j then some (rngD i (j - i).toNat) else none
  | _ => none
def dItR (g : List D → Option (List D)) (A : Env → Out (List Vl)) : Env → Out (List D) := fun ρ => (A ρ).bind fun xs ρ1 =>
  match (lookAll xs ρ1).bind g with
  | some ds => .ok ds ρ1
  | none => .bad
section
variable {K : PySem.W.Frag} {ct : CT} {W W1 : Wd} {σ : L2.St} {Wx : WX}
theorem EPost.bindI {o : Out Vl} {k : Vl → Env → Out (List D)} {R : It → Hp → Prop} {Q' : VK} (h : IPost K ct W σ Wx (o.bind k) R)
    (hk : ∀ vl ρ1 v W1, Wst W W1 → Rep K ct W1 σ ρ1 → RVl K ct W W1 σ v vl → IPost K ct W σ Wx (k vl ρ1) R → Q' v W1.H) : EPost K ct W σ Wx o Q' := by
  cases o with
  | ok vl ρ' => exact fun v W' s R r => hk vl ρ' v W' s R r h
  | err e ρ' => exact h
  | bad => exact h
theorem VPost.bindI {o : Out (List Vl)} {k : List Vl → Env → Out (List D)} {R : It → Hp → Prop} {Q' : List V → Hp → Prop} (h : IPost K ct W σ Wx (o.bind k) R)
    (hk : ∀ xs ρ1 vs W1, Wst W W1 → Rep K ct W1 σ ρ1 → Rels K ct W W1 σ vs xs → IPost K ct W σ Wx (k xs ρ1) R → Q' vs W1.H) : VPost K ct W σ Wx o Q' := by
  cases o with
  | ok vl ρ' => exact fun v W' s R r => hk vl ρ' v W' s R r h
  | err e ρ' => exact h
  | bad => exact h
theorem sql_at {a : Addr} {xs ys : List V} {I : Hp} (h : I a = some (.lst xs)) (q : SqL K I a ys) (hk : K.lookup a = none) : True := trivial
theorem walkD_list {a : Addr} {I : Hp} {vs : List V} {ds : List D} (h : I a = some (.lst vs)) (r : RVs K ct I vs ds) : WalkD K ct (Itl K a) ds I where
  goes i H hi s := by
    obtain ⟨v, hv, _⟩ := r.get (List.getElem?_eq_getElem hi)
    exact ⟨vs, v, .of (s _ _ h), hv⟩
  stops H s := ⟨vs, .of (s _ _ h), by rw [r.length]; exact Nat.le_refl _⟩
  yields i H x H' hi s y := by
    obtain ⟨e, q⟩ := y
    obtain ⟨v, hv, rv⟩ := r.get (List.getElem?_eq_getElem hi)
    have e2 := q vs (.of (s _ _ h))
    rw [hv] at e2; cases e2
    exact ⟨_, List.getElem?_eq_getElem hi, .inl ⟨e, rv⟩⟩
theorem walkD_tup {a : Addr} {I : Hp} {vs : List V} {ds : List D} (h : SqT K I a vs) (r : RVs K ct I vs ds) : WalkD K ct (Itt K a) ds I where
  goes i H hi s := by
    obtain ⟨v, hv, _⟩ := r.get (List.getElem?_eq_getElem hi)
    exact ⟨vs, v, same_t s h, hv⟩
  stops H s := ⟨vs, same_t s h, by rw [r.length]; exact Nat.le_refl _⟩
  yields i H x H' hi s y := by
    obtain ⟨e, q⟩ := y
    obtain ⟨v, hv, rv⟩ := r.get (List.getElem?_eq_getElem hi)
    have e2 := q vs (same_t s h)
    rw [hv] at e2; cases e2
    exact ⟨_, List.getElem?_eq_getElem hi, .inl ⟨e, rv⟩⟩
theorem rngD_length (lo : Int) (n : Nat) : (rngD lo n).length = n := by simp [rngD]
theorem walkD_rng {I : Hp} {lo : Int} {n : Nat} : WalkD K ct (Itr lo n) (rngD lo n) I where
  goes i H hi s := by rw [rngD_length] at hi; exact hi
  stops H s := by rw [rngD_length]; exact Nat.le_refl n
  yields i H x H' hi s y := by
    obtain ⟨e, q⟩ := y
    rw [rngD_length] at hi
    refine ⟨.int (lo + (i : Int)), ?_, .inl ⟨e, by rw [q]; exact .int _⟩⟩
    simp [rngD, hi]
end
section
variable {ct : CT} {X : Cx} {Wx : WX} {n : Nat} {tg e a b : Expr} {F : Env → Out Vl} {G : Env → Out (List Vl)} {p pos : Pos}
theorem di_seq (he : DE ct X Wx e F) : DI ct X Wx tg e (dIt F) := pi_imp (pi_seq he) fun σ H R h => by
  obtain ⟨W, ρ, rfl, Rp, h⟩ := h
  refine ⟨W, ρ, rfl, Rp, EPost.bindI h fun vl ρ1 v W1 s1 R1 r1 h1 => ?_⟩
  cases ef : frz vl ρ1 with
  | bad => rw [ef] at h1; exact h1.elim
  | err e ρ' => exact (frz_noerr ef).elim
  | ok d ρ2 =>
    rw [ef] at h1
    simp only [Out.bind_ok] at h1
    obtain ⟨W2, eH, s2, R2, rv⟩ := frz_ok s1 R1 r1 ef
    rw [← eH]
    cases rv with
    | lst h r => exact ⟨_, rfl, .inl ⟨⟨_, .of (R2.same _ _ h)⟩, h1 _ W2 s2 R2 (walkD_list h r)⟩⟩
    | tup h r => exact ⟨_, rfl, .inr ⟨⟨_, same_t R2.same h⟩, h1 _ W2 s2 R2 (walkD_tup h r)⟩⟩
    | non => exact h1.elim
    | bl _ => exact h1.elim
    | int _ => exact h1.elim
    | str _ => exact h1.elim
    | scr _ _ => exact h1.elim
    | ins _ _ _ => exact h1.elim
    | err _ _ _ => exact h1.elim
theorem inR_of {j : Int} (h : inR j = true) : -(2 ^ 62) ≤ j ∧ j < 2 ^ 62 := of_decide_eq_true h
theorem di_rng1 (hg : Gl X "range") (hm : X.mg "range" = none) (ha : DV ct X Wx [a] G) (hs : starEach [a] X.env = [(false, eval a X.env)] := by rfl) : DI ct X Wx tg (.Call (.Name "range" p) [a] [] pos) (dItR dRng1 G) :=
  pi_imp (pi_range1 hg hm ha hs) fun σ H R h => by
    obtain ⟨W, ρ, rfl, Rp, h⟩ := h
    refine ⟨W, ρ, rfl, Rp, VPost.bindI h fun xs ρ1 vs W1 s1 R1 r1 h1 => ?_⟩
    cases e : (lookAll xs ρ1).bind dRng1 with
    | none => rw [e] at h1; exact h1.elim
    | some ds =>
      rw [e] at h1
      obtain ⟨es, e1, e2⟩ := Option.bind_eq_some_iff.mp e
      have rl := r1.rl R1 e1
      unfold dRng1 at e2
      split at e2
      · split at e2
        · cases e2
          rename_i hj
          obtain ⟨v, rfl, rfl⟩ := rl.one
          exact ⟨_, rfl, (inR_of hj).1, (inR_of hj).2, h1 _ W1 s1 R1 walkD_rng⟩
        · cases e2
      · cases e2
theorem di_rng2 (hg : Gl X "range") (hm : X.mg "range" = none) (ha : DV ct X Wx [a, b] G) (hs : starEach [a, b] X.env = [(false, eval a X.env), (false, eval b X.env)] := by rfl) (hs2 : starEach [b] X.env = [(false, eval b X.env)] := by rfl) :
    DI ct X Wx tg (.Call (.Name "range" p) [a, b] [] pos) (dItR dRng2 G) :=
  pi_imp (pi_range2 hg hm ha hs hs2) fun σ H R h => by
    obtain ⟨W, ρ, rfl, Rp, h⟩ := h
    refine ⟨W, ρ, rfl, Rp, VPost.bindI h fun xs ρ1 vs W1 s1 R1 r1 h1 => ?_⟩
    cases e : (lookAll xs ρ1).bind dRng2 with
    | none => rw [e] at h1; exact h1.elim
    | some ds =>
      rw [e] at h1
      obtain ⟨es, e1, e2⟩ := Option.bind_eq_some_iff.mp e
      have rl := r1.rl R1 e1
      unfold dRng2 at e2
      split at e2
      · split at e2
        · cases e2
          rename_i hj
          obtain ⟨v, w, rfl, rfl, rfl⟩ := rl.two
          exact ⟨_, _, rfl, ⟨(inR_of hj.1).1, (inR_of hj.1).2, (inR_of hj.2).1, (inR_of hj.2).2⟩, h1 _ W1 s1 R1 walkD_rng⟩
        · cases e2
      · cases e2
end
/-! ### targets -/
/-- a target gets data that stands -/
def OnlyAt (is : List Nat) (σ σ' : L2.St) : Prop := σ'.length = σ.length ∧ ∀ i, i ∉ is → σ'[i]? = σ[i]?
theorem OnlyAt.refl {is : List Nat} {σ : L2.St} : OnlyAt is σ σ := ⟨rfl, fun _ _ => rfl⟩
def DG (ct : CT) (X : Cx) (n : Nat) (is : List Nat) (tg : Expr) (set : D → Env → Option Env) : Prop :=
  ∃ g : TG, PG X tg g ∧ ∀ (W : Wd) (σ : L2.St) (ρ ρ' : Env) (v : V) (d : D) (Q : L2.St → Hp → Prop), Rep X.K ct W σ ρ → RV X.K ct W.I v d → set d ρ = some ρ' →
    (∀ σ' w', Wst W ⟨W.I, W.H, w'⟩ → Rep X.K ct ⟨W.I, W.H, w'⟩ σ' ρ' → Fix n σ σ' → OnlyAt is σ σ' → Q σ' W.H) → g v σ W.H Q
def gSet (n i : Nat) : D → Env → Option Env := fun d ρ => if i < n then none else some (ρ.set i (.dat d))
/-- names for the items of a tuple -/
def gSets (n : Nat) : List Nat → List D → Env → Option Env
  | [], [], ρ => some ρ
  | i :: is, d :: ds, ρ => (gSet n i d ρ).bind (gSets n is ds)
  | _, _, _ => none
def gTupD (n : Nat) (is : List Nat) : D → Env → Option Env
  | .tuple ds, ρ => if ds.length = is.length then gSets n is ds ρ else none
  | _, _ => none
section
variable {ct : CT} {X : Cx} {Wx : WX} {n : Nat} {tg e a b : Expr} {pos : Pos}
theorem gset_ok {K : PySem.W.Frag} {W : Wd} {σ : L2.St} {ρ ρ' : Env} {v : V} {d : D} {i : Nat} (R : Rep K ct W σ ρ) (r : RV K ct W.I v d) (h : gSet n i d ρ = some ρ') :
    ∃ w', Wst W ⟨W.I, W.H, w'⟩ ∧ Rep K ct ⟨W.I, W.H, w'⟩ (σ.set i (some v)) ρ' ∧ Fix n σ (σ.set i (some v)) := by
  unfold gSet at h
  split at h
  · cases h
  · rename_i hi
    cases h
    obtain ⟨s, R'⟩ := R.put i (as := []) (s := .dat d) ⟨rfl, r⟩ .nil (fun a m => by simp at m) (fun a m => by simp at m) (.refl W)
    exact ⟨_, s, R', .set hi⟩
theorem dg_name {i : Nat} {x : Str} (hN : X.N.Nodup) (hi : X.N[i]? = some x) (hx : Loc X.env.scope x) (hf : X.fn x = true ∨ X.env.scope.names.lookup x = some .local := by first | exact .inl rfl | exact .inr rfl | assumption) : DG ct X n [i] (.Name x pos) (gSet n i) :=
  ⟨_, pg_name hN hi hx hf, fun W σ ρ ρ' v d Q R r h q => by
    obtain ⟨w', s, R', f⟩ := gset_ok R r h
    exact q _ w' s R' f ⟨List.length_set, fun j hj => List.getElem?_set_ne (fun e => hj (by simp [e]))⟩⟩
/-- several names -/
inductive DGs (X : Cx) : List Expr → List Nat → Prop
  | nil : DGs X [] []
  | cons {i : Nat} {x : Str} {p : Pos} {es : List Expr} {is : List Nat} (hi : X.N[i]? = some x) (hx : Loc X.env.scope x) (hf : X.fn x = true ∨ X.env.scope.names.lookup x = some .local)
      (hs : (assignEach (.Name x p :: es) X.env).map (·.2) = assign (.Name x p) X.env :: (assignEach es X.env).map (·.2)) : DGs X es is → DGs X (.Name x p :: es) (i :: is)
theorem dgs_run (hN : X.N.Nodup) {es : List Expr} {is : List Nat} (h : DGs X es is) : ∃ t : TGs, PGs X es t ∧ ∀ (W : Wd) (σ : L2.St) (ρ ρ' : Env) (vs : List V) (ds : List D) (Q : L2.St → Hp → Prop), Rep X.K ct W σ ρ → RVs X.K ct W.I vs ds → gSets n is ds ρ = some ρ' →
    (∀ σ' w', Wst W ⟨W.I, W.H, w'⟩ → Rep X.K ct ⟨W.I, W.H, w'⟩ σ' ρ' → Fix n σ σ' → OnlyAt is σ σ' → Q σ' W.H) → t vs σ W.H Q := by
  induction h with
  | nil =>
    refine ⟨_, pgs_nil, fun W σ ρ ρ' vs ds Q R r h q => ?_⟩
    cases r with
    | nil => cases h; exact ⟨rfl, q σ W.w (.refl _) R .refl .refl⟩
    | cons _ _ => cases h
  | cons hi hx hf hs r ih =>
    obtain ⟨t, ht, hq⟩ := ih
    refine ⟨_, pgs_cons (pg_name hN hi hx hf) ht hs, fun W σ ρ ρ' vs ds Q R r h q => ?_⟩
    cases r with
    | nil => cases h
    | cons r1 r2 =>
      obtain ⟨ρ1, h1, h2⟩ := Option.bind_eq_some_iff.mp h
      obtain ⟨w', s, R', f⟩ := gset_ok R r1 h1
      refine ⟨_, _, rfl, hq ⟨W.I, W.H, w'⟩ _ ρ1 ρ' _ _ Q R' r2 h2 fun σ' w2 s2 R2 f2 o2 => q σ' w2 (s.trans s2) R2 (f.trans f2) ⟨o2.1.trans List.length_set, fun j hj => (o2.2 j (fun m => hj (List.mem_cons_of_mem _ m))).trans (List.getElem?_set_ne (fun e => hj (by simp [e])))⟩⟩
theorem dg_tup {es : List Expr} {is : List Nat} {k : Nat} (hN : X.N.Nodup) (hc : X.calm = true) (h : DGs X es is) (hn : (assignEach es X.env).length = is.length := by rfl) (hst : (assignEach es X.env).findIdx? (·.1) = none := by rfl) : DG ct X n is (.Tuple es k pos) (gTupD n is) := by
  obtain ⟨t, ht, hq⟩ := dgs_run (ct := ct) (n := n) hN h
  refine ⟨_, pg_tup hc ht hn hst, fun W σ ρ ρ' v d Q R r h q => ?_⟩
  unfold gTupD at h
  split at h
  · split at h
    · rename_i hl
      cases r with
      | tup h1 r1 => exact ⟨_, _, rfl, same_t R.same h1, by rw [r1.length]; exact hl, hq W σ ρ ρ' _ _ Q R r1 h q⟩
    · cases h
  · cases h
/-- target = e -/
def sTo (set : D → Env → Option Env) (F : Env → Out Vl) : Env → SOut := fun ρ => match (F ρ).bind frz with
  | .ok d ρ1 => match set d ρ1 with
    | some ρ2 => .nx ρ2
    | none => .bad
  | .err e ρ1 => .er e ρ1
  | .bad => .bad
theorem ds_to {F : Env → Out Vl} {set : D → Env → Option Env} (he : DE ct X Wx e F) {is : List Nat} (hg : DG ct X n is tg set) (hs : swapsWithSole [tg] e pos.line X.env = pure false := by rfl) (hw : swappedStores [tg] e X.env = pure none := by rfl)
    (h1 : (assignEach [tg] X.env).map (·.2) = [assign tg X.env] := by rfl) : DS ct X Wx n (.Assign [tg] e pos) (sTo set F) := by
  obtain ⟨g, hg, hq⟩ := hg
  refine ps_imp (ps_asg he hg hs hw h1) fun Y σ H h => ?_
  obtain ⟨W, ρ, rfl, R, h⟩ := h
  simp only [sTo] at h
  refine ⟨W, ρ, rfl, R, ?_⟩
  cases e : F ρ with
  | err er ρ1 => rw [e] at h; exact fun c d W' s R r => h c d σ W' s R .refl r
  | bad => rw [e] at h; exact h
  | ok vl ρ1 =>
    rw [e] at h
    intro v W1 s1 R1 r1
    simp only [Out.bind_ok] at h
    cases ef : frz vl ρ1 with
    | bad => rw [ef] at h; exact h.elim
    | err e ρ' => exact (frz_noerr ef).elim
    | ok d ρ2 =>
      rw [ef] at h
      simp only [] at h
      obtain ⟨W2, eH, s2, R2, rv⟩ := frz_ok s1 R1 r1 ef
      rw [← eH]
      cases es : set d ρ2 with
      | none => rw [es] at h; exact h.elim
      | some ρ3 =>
        rw [es] at h
        exact hq W2 σ ρ2 ρ3 v d _ R2 rv es fun σ' w' s3 R3 f _ => h σ' ⟨W2.I, W2.H, w'⟩ (s2.trans s3) R3 f
end
/-! ### for -/
def forL (set : D → Env → Option Env) (body : Env → SOut) : List D → Env → SOut
  | [], ρ => .nx ρ
  | d :: ds, ρ => match set d ρ with
    | none => .bad
    | some ρ1 => match body ρ1 with
      | .nx ρ2 => forL set body ds ρ2
      | .ct ρ2 => forL set body ds ρ2
      | .bk ρ2 => .nx ρ2
      | o => o
def sFor (F : Env → Out (List D)) (set : D → Env → Option Env) (body : Env → SOut) : Env → SOut := fun ρ => match F ρ with
  | .ok ds ρ1 => forL set body ds ρ1
  | .err e ρ1 => .er e ρ1
  | .bad => .bad
section
variable {ct : CT} {X : Cx} {Wx : WX} {n : Nat} {tg iter : Expr} {body : List Stmt} {F : Env → Out (List D)} {set : D → Env → Option Env} {B : Env → SOut} {pos : Pos}
/-- a turn's item comes to stand -/
theorem yd_ok {K : PySem.W.Frag} {W : Wd} {σ : L2.St} {ρ : Env} {x : V} {H' : Hp} {d : D} (R : Rep K ct W σ ρ) (y : YD K ct W.I W.H x H' d) : ∃ W', W'.H = H' ∧ Wst W W' ∧ Rep K ct W' σ ρ ∧ RV K ct W'.I x d := by
  rcases y with ⟨e, r⟩ | ⟨T, ws, es, rfl, hT, rfl, rfl, r⟩
  · exact ⟨W, e.symm, .refl _, R, r⟩
  · obtain ⟨s, R'⟩ := R.layI hT (.tup ws)
    exact ⟨_, rfl, s, R', .tup (.inl (.inl upd_same)) (r.mono s.same)⟩
theorem for_rd {is : List Nat} {g : TG} (hg : ∀ (W : Wd) (σ : L2.St) (ρ ρ' : Env) (v : V) (d : D) (Q : L2.St → Hp → Prop), Rep X.K ct W σ ρ → RV X.K ct W.I v d → set d ρ = some ρ' →
      (∀ σ' w', Wst W ⟨W.I, W.H, w'⟩ → Rep X.K ct ⟨W.I, W.H, w'⟩ σ' ρ' → Fix n σ σ' → OnlyAt is σ σ' → Q σ' W.H) → g v σ W.H Q)
    (Y : Ends) (σ : L2.St) (H : Hp) (h : rdS X.K ct n Wx (sFor F set B) Y σ H) : tFor (rdI X.K ct Wx F) g (rdS X.K ct n Wx B) Y σ H := by
  obtain ⟨W, ρ, rfl, R, h⟩ := h
  refine ⟨W, ρ, rfl, R, ?_⟩
  simp only [sFor] at h
  cases e : F ρ with
  | err er ρ1 => rw [e] at h; exact fun c d W' s R r => h c d σ W' s R .refl r
  | bad => rw [e] at h; exact h
  | ok ds ρ1 =>
    rw [e] at h
    simp only [] at h
    intro J W1 s1 R1 wk
    refine ⟨fun i m σ2 H2 => ∃ W2 ρ2, W2.H = H2 ∧ m = ds.length - i ∧ i ≤ ds.length ∧ Wst W1 W2 ∧ Rep X.K ct W2 σ2 ρ2 ∧ SPost X.K ct n W2 σ2 Wx (forL set B (ds.drop i) ρ2) Y,
      ⟨ds.length, W1, ρ1, rfl, rfl, Nat.zero_le _, .refl _, R1, SPost.mono (out := forL set B ds ρ1) h s1 .refl⟩, fun i m σ2 H2 hW => ?_⟩
    obtain ⟨W2, ρ2, rfl, rfl, hi, s2, R2, hp⟩ := hW
    have sI : Same W1.I W2.H := fun b o q => R2.same b o (s2.same b o q)
    rcases Nat.lt_or_ge i ds.length with hlt | hge
    · refine .inr ⟨wk.goes i _ hlt sI, fun σ' H' => ∃ m', m' < ds.length - i ∧ ∃ W2 ρ2, W2.H = H' ∧ m' = ds.length - (i + 1) ∧ i + 1 ≤ ds.length ∧ Wst W1 W2 ∧ Rep X.K ct W2 σ' ρ2 ∧ SPost X.K ct n W2 σ' Wx (forL set B (ds.drop (i + 1)) ρ2) Y,
        fun σ' H' q => q, fun x H' y => ?_⟩
      obtain ⟨d, hd, yd⟩ := wk.yields i _ x H' hlt sI y
      have ed : ds.drop i = d :: ds.drop (i + 1) := by
        rw [List.drop_eq_getElem_cons hlt]
        rw [List.getElem?_eq_getElem hlt] at hd
        rw [Option.some.inj hd]
      rw [ed] at hp
      simp only [forL] at hp
      have yd' : YD X.K ct W2.I W2.H x H' d := by
        rcases yd with ⟨e, r⟩ | ⟨T, ws, es, a, b, c, f, r⟩
        · exact .inl ⟨e, r.mono s2.same⟩
        · exact .inr ⟨T, ws, es, a, b, c, f, r.mono s2.same⟩
      obtain ⟨W3, rfl, s3, R3, rv⟩ := yd_ok R2 yd'
      cases es : set d ρ2 with
      | none => rw [es] at hp; exact hp.elim
      | some ρ3 =>
        rw [es] at hp
        simp only [] at hp
        refine hg W3 σ2 ρ2 ρ3 x d _ R3 rv es fun σ4 w4 s4 R4 f4 _ => ⟨⟨W3.I, W3.H, w4⟩, ρ3, rfl, R4, ?_⟩
        have s24 := s3.trans s4
        have next : ∀ {ρ5 : Env}, SPost X.K ct n W2 σ2 Wx (forL set B (ds.drop (i + 1)) ρ5) Y → ∀ σ' W', Wst ⟨W3.I, W3.H, w4⟩ W' → Rep X.K ct W' σ' ρ5 → Fix n σ4 σ' →
            ∃ m', m' < ds.length - i ∧ ∃ W2 ρ2, W2.H = W'.H ∧ m' = ds.length - (i + 1) ∧ i + 1 ≤ ds.length ∧ Wst W1 W2 ∧ Rep X.K ct W2 σ' ρ2 ∧ SPost X.K ct n W2 σ' Wx (forL set B (ds.drop (i + 1)) ρ2) Y :=
          fun {ρ5} q σ' W' s5 R5 f5 => ⟨ds.length - (i + 1), by omega, W', ρ5, rfl, rfl, hlt, s2.trans (s24.trans s5), R5, SPost.mono (out := forL set B (ds.drop (i + 1)) ρ5) q (s24.trans s5) (f4.trans f5)⟩
        cases eb : B ρ3 with
        | nx ρ5 => rw [eb] at hp; exact next hp
        | ct ρ5 => rw [eb] at hp; exact next hp
        | bk ρ5 => rw [eb] at hp; exact fun σ' W' s5 R5 f5 => hp σ' W' (s24.trans s5) R5 (f4.trans f5)
        | rt v ρ5 => rw [eb] at hp; exact SPost.mono (out := .rt v ρ5) (Y := Y) hp s24 f4
        | er er ρ5 => rw [eb] at hp; exact SPost.mono (out := .er er ρ5) (Y := Y) hp s24 f4
        | bad => rw [eb] at hp; exact hp
    · have ei : i = ds.length := by omega
      subst ei
      rw [List.drop_length] at hp
      exact .inl ⟨wk.stops _ sI, hp σ2 W2 (.refl _) R2 .refl⟩
theorem ds_for (hp : PassesOwn (model X.prog X.w) X.A X.env X.xe) (hc : X.calm = true) (hi : DI ct X Wx tg iter F) {is : List Nat} (hg : DG ct X n is tg set) (hb : DB ct X Wx n body B)
    (hs : ∀ x, foldedSetIterable iter X.env x = pure x := by intro _; rfl) : DS ct X Wx n (.For tg iter body [] pos) (sFor F set B) := by
  obtain ⟨g, hg, hq⟩ := hg
  exact ps_imp (ps_for hp hc hi hg hb hs) fun Y σ H h => for_rd hq Y σ H h
end
end DL
end
section
set_option Elab.async false
set_option linter.all false
set_option maxRecDepth 100000
namespace DL
open PySem PySem.Spec PyProof.Rows L2
/-! ### list comprehensions -/
def wipeE (ρ : Env) : List Nat → Env
  | [] => ρ
  | v :: vs => (wipeE ρ vs).set v .non
/-- the slots vs as they were in ρ0 -/
def restE (ρ0 ρ : Env) : List Nat → Env
  | [] => ρ
  | v :: vs => (restE ρ0 ρ vs).set v (ρ0.getD v .non)
def quiet : Sl → Bool
  | .non => true
  | .dat _ => true
  | _ => false
def compL (vs : List Nat) (set : D → Env → Option Env) (T : Env → Out Bool) (E : Env → Out Vl) : List D → Env → List D → Out (List D)
  | [], ρ, acc => .ok acc ρ
  | d :: ds, ρ, acc => match set d ρ with
    | none => .bad
    | some ρ1 => match T ρ1 with
      | .ok true ρ2 => match (E ρ2).bind frz with
        | .ok y ρ3 => if acc.length < sizeLine then compL vs set T E ds (wipeE ρ3 vs) (acc ++ [y]) else .bad
        | _ => .bad
      | .ok false ρ2 => compL vs set T E ds (wipeE ρ2 vs) acc
      | _ => .bad
def dComp (vs : List Nat) (F : Env → Out (List D)) (set : D → Env → Option Env) (T : Env → Out Bool) (E : Env → Out Vl) : Env → Out Vl := fun ρ => (F ρ).bind fun ds ρ1 =>
  if vs.all fun v => quiet (ρ1.getD v .non) then match compL vs set T E ds (wipeE ρ1 vs) [] with
    | .ok acc ρ2 => .ok (.sl (.own acc)) (restE ρ1 ρ2 vs)
    | _ => .bad
  else .bad
def tYesD : Env → Out Bool := fun ρ => .ok true ρ
section
variable {K : PySem.W.Frag} {ct : CT} {n : Nat} {W0 W W1 W2 : Wd} {σ σ1 : L2.St} {ρ ρ' ρ1 : Env} {Wx : WX} {I H : Hp}
theorem Rep.wipe (R : Rep K ct W σ ρ) (s0 : Wst W0 W) : ∀ vs : List Nat, ∃ w', Wst W0 ⟨W.I, W.H, w'⟩ ∧ Rep K ct ⟨W.I, W.H, w'⟩ (L2.wipe σ vs) (wipeE ρ vs) ∧ ∀ a ∈ w'.flatten, a ∈ W.own
  | [] => ⟨W.w, s0, R, fun _ m => m⟩
  | v :: vs => by
    obtain ⟨w', s, R', q⟩ := R.wipe s0 vs
    obtain ⟨s2, R2⟩ := R'.give s v
    exact ⟨_, s2, R2, fun a m => q a (flatten_set_sub m)⟩
theorem Reps.of_at : ∀ {σ : L2.St} {ρ : Env} {w : List (List Addr)}, σ.length = ρ.length → w.length = ρ.length → (∀ (i : Nat) (o : Option V) (s : Sl) (as : List Addr), σ[i]? = some o → ρ[i]? = some s → w[i]? = some as → RSo K ct I H o as s) → Reps K ct I H σ ρ w
  | [], [], [], _, _, _ => .nil
  | o :: σ, s :: ρ, as :: w, h1, h2, h => .cons (h 0 o s as rfl rfl rfl) (Reps.of_at (by simpa using h1) (by simpa using h2) fun i o s as a b c => h (i + 1) o s as a b c)
  | [], _ :: _, _, h1, _, _ => by simp at h1
  | _ :: _, [], _, h1, _, _ => by simp at h1
  | [], [], _ :: _, _, h2, _ => by simp at h2
  | _ :: _, _ :: _, [], _, h2, _ => by simp at h2
theorem wipe_none {i : Nat} : ∀ {vs : List Nat}, i ∈ vs → ∀ o, (L2.wipe σ vs)[i]? = some o → o = none
  | v :: vs, m, o, e => by
    have e : ((L2.wipe σ vs).set v none)[i]? = some o := e
    by_cases q : v = i
    · subst q
      rw [List.getElem?_set] at e
      simp only [if_true] at e
      split at e
      · cases e; rfl
      · cases e
    · rw [List.getElem?_set_ne q] at e
      rcases List.mem_cons.mp m with m | m
      · exact absurd m.symm q
      · exact wipe_none m o e
theorem wipe_out {i : Nat} : ∀ {vs : List Nat}, i ∉ vs → (L2.wipe σ vs)[i]? = σ[i]?
  | [], _ => rfl
  | v :: vs, m => by
    show ((L2.wipe σ vs).set v none)[i]? = _
    rw [List.getElem?_set_ne (fun e => m (by simp [e])), wipe_out (fun h => m (List.mem_cons_of_mem _ h))]
theorem wipe_eq {vs is : List Nat} {σ2 : L2.St} (o : OnlyAt is (L2.wipe σ vs) σ2) (hs : ∀ i ∈ is, i ∈ vs) : L2.wipe σ2 vs = L2.wipe σ vs := by
  refine List.ext_getElem? fun i => ?_
  have l2 : σ2.length = σ.length := by rw [o.1, L2.wipe_length]
  by_cases hi : i ∈ vs
  · rcases Nat.lt_or_ge i σ.length with h | h
    · have a : i < (L2.wipe σ2 vs).length := by rw [L2.wipe_length, l2]; exact h
      have b : i < (L2.wipe σ vs).length := by rw [L2.wipe_length]; exact h
      rw [List.getElem?_eq_getElem a, List.getElem?_eq_getElem b, wipe_none hi _ (List.getElem?_eq_getElem a), wipe_none hi _ (List.getElem?_eq_getElem b)]
    · rw [List.getElem?_eq_none (by rw [L2.wipe_length, l2]; exact h), List.getElem?_eq_none (by rw [L2.wipe_length]; exact h)]
  · rw [wipe_out hi, o.2 i (fun m => hi (hs i m)), wipe_out hi]
theorem restE_length {ρ0 : Env} : ∀ vs : List Nat, (restE ρ0 ρ vs).length = ρ.length
  | [] => rfl
  | v :: vs => by
    show ((restE ρ0 ρ vs).set v _).length = _
    rw [List.length_set, restE_length vs]
theorem restE_in {ρ0 : Env} {i : Nat} : ∀ {vs : List Nat} {s : Sl}, i ∈ vs → (restE ρ0 ρ vs)[i]? = some s → s = ρ0.getD i .non
  | v :: vs, s, m, e => by
    have e : ((restE ρ0 ρ vs).set v (ρ0.getD v .non))[i]? = some s := e
    by_cases q : v = i
    · subst q
      rw [List.getElem?_set] at e
      simp only [if_true] at e
      split at e
      · cases e; rfl
      · cases e
    · rw [List.getElem?_set_ne q] at e
      rcases List.mem_cons.mp m with m | m
      · exact absurd m.symm q
      · exact restE_in m e
theorem restE_out {ρ0 : Env} {i : Nat} : ∀ {vs : List Nat}, i ∉ vs → (restE ρ0 ρ vs)[i]? = ρ[i]?
  | [], _ => rfl
  | v :: vs, m => by
    show ((restE ρ0 ρ vs).set v _)[i]? = _
    rw [List.getElem?_set_ne (fun e => m (by simp [e])), restE_out (fun h => m (List.mem_cons_of_mem _ h))]
/-- the slots of the comprehension's own names come back -/
theorem Rep.rest {vs : List Nat} {ρ2 : Env} (R1 : Rep K ct W1 σ ρ1) (hq : (vs.all fun v => quiet (ρ1.getD v .non)) = true) (s : Wst W1 W2) (R2 : Rep K ct W2 (L2.wipe σ vs) ρ2) (hw : ∀ v ∈ vs, ∀ t, ρ2[v]? = some t → t = .non) : Rep K ct W2 σ (restE ρ1 ρ2 vs) := by
  have l1 := R1.reps.length
  have l2 := R2.reps.length
  refine ⟨R2.same, Reps.of_at (by rw [restE_length, ← l2.1, L2.wipe_length]) (by rw [restE_length]; exact l2.2) fun i o t as a b c => ?_, R2.nd⟩
  by_cases hi : i ∈ vs
  · have et := restE_in hi b
    have il : i < ρ2.length := by
      rcases Nat.lt_or_ge i ρ2.length with h | h
      · exact h
      · rw [List.getElem?_eq_none (by rw [restE_length]; exact h)] at b; cases b
    obtain ⟨o2, as2, e1, e2, q2⟩ := R2.reps.at (List.getElem?_eq_getElem il)
    rw [c] at e2; cases e2
    rw [hw i hi _ (List.getElem?_eq_getElem il)] at q2
    have q2 : as = [] := q2
    subst q2
    have qi : quiet (ρ1.getD i .non) = true := List.all_eq_true.mp hq i hi
    rw [et]
    cases es : ρ1.getD i .non with
    | non => exact rfl
    | dat d =>
      obtain ⟨v, as3, f1, f2, f3⟩ := R1.at es nofun
      rw [a] at f1; cases f1
      exact ⟨v, rfl, rfl, f3.2.mono s.same⟩
    | own xs => rw [es] at qi; cases qi
    | obj c fs => rw [es] at qi; cases qi
    | exn er => rw [es] at qi; cases qi
  · rw [restE_out hi] at b
    obtain ⟨o2, as2, e1, e2, q2⟩ := R2.reps.at b
    rw [wipe_out hi, a] at e1; cases e1
    rw [c] at e2; cases e2
    exact q2
theorem wipeE_non {v : Nat} {ρ : Env} : ∀ {vs : List Nat}, v ∈ vs → ∀ t, (wipeE ρ vs)[v]? = some t → t = .non
  | u :: vs, m, t, e => by
    have e : ((wipeE ρ vs).set u .non)[v]? = some t := e
    by_cases q : u = v
    · subst q
      rw [List.getElem?_set] at e
      simp only [if_true] at e
      split at e
      · cases e; rfl
      · cases e
    · rw [List.getElem?_set_ne q] at e
      rcases List.mem_cons.mp m with m | m
      · exact absurd m.symm q
      · exact wipeE_non m t e
/-- a thing that nobody here knows is written -/
theorem Rep.poke (R : Rep K ct W σ ρ) {a : Addr} {o : HO} (hI : W.I a = none) (ho : a ∉ W.own) (s0 : Wst W0 W) (hf : Fr0 W0 a) : Wst W0 ⟨W.I, upd W.H a o, W.w⟩ ∧ Rep K ct ⟨W.I, upd W.H a o, W.w⟩ σ ρ := by
  have up : ∀ b u, b ≠ a → W.H b = some u → upd W.H a o b = some u := fun b u q e => by rw [upd_ne q]; exact e
  refine ⟨⟨s0.same, fun b u e m => up b u (fun q => ?_) (s0.frame b u e m), s0.ofr, s0.ifr, fun b u e => ?_⟩, fun b u e => up b u (fun q => by rw [q] at e; rw [show W.I a = none from hI] at e; cases e) (R.same b u e), R.reps.mono (.refl _) (fun _ _ h => h) fun b m u e => up b u (fun q => ho (by rw [← q]; exact m)) e, R.nd⟩
  · subst q
    rcases hf with h | h
    · rw [e] at h; cases h
    · exact m h
  · by_cases q : b = a
    · rw [q]; exact ⟨_, upd_same⟩
    · obtain ⟨u', h⟩ := s0.alive b u e
      exact ⟨u', up b u' q h⟩
end
section
variable {ct : CT} {X : Cx} {Wx : WX} {n : Nat} {tg iter elt : Expr} {vs is : List Nat} {F : Env → Out (List D)} {set : D → Env → Option Env} {T : Env → Out Bool} {E : Env → Out Vl}
abbrev Wx0 : WX := fun _ _ _ _ => False
theorem comp_rd {g : TG} (his : ∀ i ∈ is, i ∈ vs) (hg : ∀ (W : Wd) (σ : L2.St) (ρ ρ' : Env) (v : V) (d : D) (Q : L2.St → Hp → Prop), Rep X.K ct W σ ρ → RV X.K ct W.I v d → set d ρ = some ρ' →
      (∀ σ' w', Wst W ⟨W.I, W.H, w'⟩ → Rep X.K ct ⟨W.I, W.H, w'⟩ σ' ρ' → Fix n σ σ' → OnlyAt is σ σ' → Q σ' W.H) → g v σ W.H Q)
    (σ : L2.St) (H : Hp) (Q : VK) (h : rdE X.K ct Wx (dComp vs F set T E) σ H Q) : tLc (rdI X.K ct Wx F) g (rdT X.K ct Wx0 T) (rdE X.K ct Wx0 E) vs σ H Q := by
  obtain ⟨W, ρ, rfl, R, h⟩ := h
  refine ⟨W, ρ, rfl, R, ?_⟩
  simp only [dComp] at h
  cases e : F ρ with
  | err er ρ1 => rw [e] at h; exact h
  | bad => rw [e] at h; exact h
  | ok ds ρ1 =>
    rw [e] at h
    simp only [Out.bind_ok] at h
    intro J W1 s1 R1 wk D hD
    split at h
    · rename_i hq
      cases ec : compL vs set T E ds (wipeE ρ1 vs) [] with
      | err _ _ => rw [ec] at h; exact h.elim
      | bad => rw [ec] at h; exact h.elim
      | ok accF ρF =>
        rw [ec] at h
        -- the new list
        obtain ⟨s2, R2, nI, nO⟩ := R1.lay hD (.lst [])
        obtain ⟨w3, s3, R3, q3⟩ := R2.wipe s2 vs
        refine ⟨fun i m H2 => ∃ W2 ρ2 acc va, W2.H = H2 ∧ m = ds.length - i ∧ i ≤ ds.length ∧ Wst W1 W2 ∧ Rep X.K ct W2 (L2.wipe σ vs) ρ2 ∧ W2.I D = none ∧ D ∉ W2.own ∧ W2.H D = some (.lst va) ∧ RVs X.K ct W2.I va acc ∧
            (∀ v ∈ vs, ∀ t, ρ2[v]? = some t → t = .non) ∧ compL vs set T E (ds.drop i) ρ2 acc = .ok accF ρF,
          ⟨ds.length, ⟨W1.I, upd W1.H D (.lst []), w3⟩, wipeE ρ1 vs, [], [], rfl, rfl, Nat.zero_le _, s3, R3, nI, fun m => nO (q3 D m), upd_same, .nil, fun v m t e => wipeE_non m t e, ec⟩, fun i m H2 hW => ?_⟩
        obtain ⟨W2, ρ2, acc, va, rfl, rfl, hi, s4, R4, iD, oD, hDl, rva, hn, hc⟩ := hW
        have sI : Same W1.I W2.H := fun b o q => R4.same b o (s4.same b o q)
        have fD : Fr0 W1 D := .inl hD
        rcases Nat.lt_or_ge i ds.length with hlt | hge
        · refine .inr ⟨wk.goes i _ hlt sI, fun H' => ∃ m', m' < ds.length - i ∧ ∃ W2 ρ2 acc va, W2.H = H' ∧ m' = ds.length - (i + 1) ∧ i + 1 ≤ ds.length ∧ Wst W1 W2 ∧ Rep X.K ct W2 (L2.wipe σ vs) ρ2 ∧ W2.I D = none ∧ D ∉ W2.own ∧ W2.H D = some (.lst va) ∧ RVs X.K ct W2.I va acc ∧
            (∀ v ∈ vs, ∀ t, ρ2[v]? = some t → t = .non) ∧ compL vs set T E (ds.drop (i + 1)) ρ2 acc = .ok accF ρF, fun H' q => q, fun x H' y => ?_⟩
          obtain ⟨d, hd, yd⟩ := wk.yields i _ x H' hlt sI y
          have ed : ds.drop i = d :: ds.drop (i + 1) := by
            rw [List.drop_eq_getElem_cons hlt]
            rw [List.getElem?_eq_getElem hlt] at hd
            rw [Option.some.inj hd]
          rw [ed] at hc
          simp only [compL] at hc
          have yd' : YD X.K ct W2.I W2.H x H' d := by
            rcases yd with ⟨e, r⟩ | ⟨T, ws, es, a, b, c, f, r⟩
            · exact .inl ⟨e, r.mono s4.same⟩
            · exact .inr ⟨T, ws, es, a, b, c, f, r.mono s4.same⟩
          obtain ⟨W3, rfl, s5, R5, rv⟩ := yd_ok R4 yd'
          -- what stays true of the new list
          have keep : ∀ {Wa Wb : Wd}, Wst Wa Wb → Wa.I D = none → D ∉ Wa.own → Wa.H D = some (.lst va) → Wb.I D = none ∧ D ∉ Wb.own ∧ Wb.H D = some (.lst va) := fun {Wa Wb} s a b c => by
            refine ⟨?_, fun m => ?_, s.frame D _ c b⟩
            · cases q : Wb.I D with
              | none => rfl
              | some o =>
                rcases s.ifr D o q with z | z | z
                · rw [a] at z; cases z
                · exact absurd z b
                · rw [c] at z; cases z
            · rcases s.ofr D m with z | z
              · exact b z
              · rw [c] at z; cases z
          obtain ⟨iD5, oD5, hD5⟩ := keep s5 iD oD hDl
          cases es : set d ρ2 with
          | none => rw [es] at hc; cases hc
          | some ρ3 =>
            rw [es] at hc
            simp only [] at hc
            refine hg W3 (L2.wipe σ vs) ρ2 ρ3 x d _ R5 rv es fun σ6 w6 s6 R6 f6 o6 => ⟨wipe_eq o6 his, ⟨W3.I, W3.H, w6⟩, ρ3, rfl, R6, ?_⟩
            obtain ⟨iD6, oD6, hD6⟩ := keep s6 iD5 oD5 hD5
            have s16 := s4.trans (s5.trans s6)
            cases et : T ρ3 with
            | err _ _ => rw [et] at hc; cases hc
            | bad => rw [et] at hc; cases hc
            | ok b ρ4 =>
              rw [et] at hc
              intro W7 s7 R7
              obtain ⟨iD7, oD7, hD7⟩ := keep s7 iD6 oD6 hD6
              have s17 := s16.trans s7
              cases b with
              | false =>
                simp only [] at hc
                obtain ⟨w8, s8, R8, q8⟩ := R7.wipe s17 vs
                rw [wipe_eq o6 his] at R8
                exact ⟨ds.length - (i + 1), by omega, ⟨W7.I, W7.H, w8⟩, wipeE ρ4 vs, acc, va, rfl, rfl, hlt, s8, R8, iD7, fun m => oD7 (q8 D m), hD7, rva.mono ((s5.same.trans s6.same).trans s7.same), fun v m t e => wipeE_non m t e, hc⟩
              | true =>
                simp only [] at hc
                refine ⟨W7, ρ4, rfl, R7, ?_⟩
                cases eE : E ρ4 with
                | err _ _ => rw [eE] at hc; cases hc
                | bad => rw [eE] at hc; cases hc
                | ok vl ρ5 =>
                  rw [eE] at hc
                  simp only [Out.bind_ok] at hc
                  intro yv W8 s8 R8 r8
                  cases ef : frz vl ρ5 with
                  | bad => rw [ef] at hc; cases hc
                  | err _ _ => exact (frz_noerr ef).elim
                  | ok yd ρ6 =>
                    rw [ef] at hc
                    simp only [] at hc
                    split at hc
                    · rename_i hz
                      obtain ⟨W9, eH, s9, R9, rv9⟩ := frz_ok s8 R8 r8 ef
                      obtain ⟨iD9, oD9, hD9⟩ := keep s9 iD7 oD7 hD7
                      have s19 := s17.trans s9
                      have rva9 := rva.mono ((s5.same.trans s6.same).trans (s7.same.trans s9.same))
                      obtain ⟨s10, R10⟩ := R9.poke (o := .lst (va ++ [yv])) iD9 oD9 s19 fD
                      obtain ⟨w11, s11, R11, q11⟩ := R10.wipe s10 vs
                      rw [wipe_eq o6 his] at R11
                      rw [← eH]
                      refine ⟨va, hD9, by rw [rva9.length]; exact hz, ds.length - (i + 1), by omega, ⟨W9.I, upd W9.H D (.lst (va ++ [yv])), w11⟩, wipeE ρ6 vs, acc ++ [yd], va ++ [yv], rfl, rfl, hlt, s11, R11, iD9, fun m => oD9 (q11 D m), upd_same, rva9.append (.one rv9), fun v m t e => wipeE_non m t e, hc⟩
                    · cases hc
        · have ei : i = ds.length := by omega
          subst ei
          rw [List.drop_length] at hc
          simp only [compL, Out.ok.injEq] at hc
          obtain ⟨rfl, rfl⟩ := hc
          refine .inl ⟨wk.stops _ sI, h (.ref D) W2 (s1.trans s4) (R1.rest hq s4 R4 hn) ⟨nofun, [D], ⟨D, va, rfl, rfl, iD, hDl, rva⟩, by simp, fun a m => ?_⟩⟩
          simp at m; subst m
          exact ⟨oD, .inl (dead s1 hD)⟩
    · exact h.elim
/-- [elt for tg in iter if ..] -/
theorem de_comp {ifs : List Expr} {scope : Scope} {own : List (Str × Nat)} {pos : Pos} (hc : X.calm = true) (hN : X.N.Nodup) (hi : DI ct X Wx tg iter F) (ok : BlkOk X.N X.env.scope scope own) (his : ∀ i ∈ is, i ∈ own.map (·.2))
    (hg : ∃ g : TG, (∀ (s : Shared) (H : Hp) (C : Addr) (cl : List (Str × Addr)) (fp : List Addr), PG (X.blk s H scope (compEnvC scope cl C X.env) fp) tg g) ∧ ∀ (W : Wd) (σ : L2.St) (ρ ρ' : Env) (v : V) (d : D) (Q : L2.St → Hp → Prop), Rep X.K ct W σ ρ → RV X.K ct W.I v d → set d ρ = some ρ' →
      (∀ σ' w', Wst W ⟨W.I, W.H, w'⟩ → Rep X.K ct ⟨W.I, W.H, w'⟩ σ' ρ' → Fix n σ σ' → OnlyAt is σ σ' → Q σ' W.H) → g v σ W.H Q)
    (ht : ∀ (s : Shared) (H : Hp) (C : Addr) (cl : List (Str × Addr)) (fp : List Addr), PTs (X.blk s H scope (compEnvC scope cl C X.env) fp) ifs (rdT X.K ct Wx0 T))
    (he : ∀ (s : Shared) (H : Hp) (C : Addr) (cl : List (Str × Addr)) (fp : List Addr), DE ct (X.blk s H scope (compEnvC scope cl C X.env) fp) Wx0 elt E) (hs : ∀ x, foldedSetIterable iter X.env x = pure x := by intro _; rfl) :
    DE ct X Wx (.ListComp elt [⟨tg, iter, ifs, 0⟩] scope pos) (dComp (own.map (·.2)) F set T E) := by
  obtain ⟨g, hg1, hg2⟩ := hg
  exact pe_imp (pe_lc (te := rdE X.K ct Wx0 E) hc hN hi ok hg1 ht (fun s H C cl fp => he s H C cl fp) hs) fun σ H Q h => comp_rd his hg2 σ H Q h
theorem pts_yes {K : PySem.W.Frag} : PTs X [] (rdT X.K ct Wx0 tYesD) := ⟨fun pins s σ H Q I h => by
  obtain ⟨W, ρ, rfl, R, h⟩ := h
  exact pts_nil.run pins s σ W.H Q I (h W (.refl _) R)⟩
end
end DL
end
section
set_option Elab.async false
set_option linter.all false
set_option maxRecDepth 100000
namespace DL
open PySem PySem.Spec PyProof.Rows L2
/-! ### slices -/
def OPost (K : PySem.W.Frag) (ct : CT) (W : Wd) (σ : L2.St) (Wx : WX) (out : Out (Option Int)) (Q : Option Int → Hp → Prop) : Prop :=
  match out with
  | .ok o ρ' => ∀ W', Wst W W' → Rep K ct W' σ ρ' → Q o W'.H
  | .err e ρ' => ∀ cls d W', Wst W W' → Rep K ct W' σ ρ' → RErr K ct W' cls d e → Wx cls d σ W'.H
  | .bad => False
def rdO (K : PySem.W.Frag) (ct : CT) (Wx : WX) (F : Env → Out (Option Int)) : TO := fun σ H Q => ∃ W ρ, W.H = H ∧ Rep K ct W σ ρ ∧ OPost K ct W σ Wx (F ρ) Q
def DO (ct : CT) (X : Cx) (Wx : WX) (e : Option Expr) (F : Env → Out (Option Int)) : Prop := PO X e (rdO X.K ct Wx F)
def oNone : Env → Out (Option Int) := fun ρ => .ok none ρ
def oSome (F : Env → Out Vl) : Env → Out (Option Int) := fun ρ => (F ρ).bind fun x ρ1 => match lookD x ρ1 with
  | some (.int i) => .ok (some i) ρ1
  | _ => .bad
def cutD (xs : List D) (lo hi : Option Int) : List D := (xs.drop (HT.sIx xs.length 0 lo)).take (HT.sIx xs.length xs.length hi - HT.sIx xs.length 0 lo)
def gCut (lo hi : Option Int) : D → Option Res
  | .list ds => some (.lst (cutD ds lo hi))
  | .tuple ds => some (.tup (cutD ds lo hi))
  | .str z => if z.length ≤ sizeLine then some (.d (.str (cutS z lo hi))) else none
  | _ => none
def dCut (F : Env → Out Vl) (A B : Env → Out (Option Int)) : Env → Out Vl := fun ρ => (F ρ).bind fun x ρ1 => (A ρ1).bind fun lo ρ2 => (B ρ2).bind fun hi ρ3 =>
  match (lookD x ρ3).bind (gCut lo hi) with
  | some r => .ok r.vl ρ3
  | none => .bad
def rSlAll (K : PySem.W.Frag) : V → Option Int → Option Int → Hp → VK → Prop := fun x lo hi H Q => rSlL K x lo hi H Q ∨ rSlA K x lo hi H Q ∨ rSlS x lo hi H Q
section
variable {K : PySem.W.Frag} {ct : CT} {W W1 : Wd} {σ : L2.St} {Wx : WX}
theorem OPost.mono {out : Out (Option Int)} {Q : Option Int → Hp → Prop} (h : OPost K ct W σ Wx out Q) (s : Wst W W1) : OPost K ct W1 σ Wx out Q := by
  cases out with
  | ok vl ρ' => exact fun W' s' R => h W' (s.trans s') R
  | err e ρ' => exact fun c d W' s' R r => h c d W' (s.trans s') R r
  | bad => exact h
theorem EPost.bindO {o : Out Vl} {k : Vl → Env → Out (Option Int)} {Q : Option Int → Hp → Prop} {Q' : VK} (h : OPost K ct W σ Wx (o.bind k) Q)
    (hk : ∀ vl ρ1 v W1, Wst W W1 → Rep K ct W1 σ ρ1 → RVl K ct W W1 σ v vl → OPost K ct W σ Wx (k vl ρ1) Q → Q' v W1.H) : EPost K ct W σ Wx o Q' := by
  cases o with
  | ok vl ρ' => exact fun v W' s R r => hk vl ρ' v W' s R r h
  | err e ρ' => exact h
  | bad => exact h
theorem OPost.bindE {o : Out (Option Int)} {k : Option Int → Env → Out Vl} {Q : VK} {Q' : Option Int → Hp → Prop} (s0 : Wst W W1) (h : EPost K ct W σ Wx (o.bind k) Q)
    (hk : ∀ x ρ1 W2, Wst W1 W2 → Rep K ct W2 σ ρ1 → EPost K ct W σ Wx (k x ρ1) Q → Q' x W2.H) : OPost K ct W1 σ Wx o Q' := by
  cases o with
  | ok vl ρ' => exact fun W' s R => hk vl ρ' W' s R h
  | err e ρ' => exact fun c d W' s' R r => h c d W' (s0.trans s') R r
  | bad => exact h
theorem RVs.cut {I : Hp} {vs : List V} {ds : List D} (h : RVs K ct I vs ds) (lo hi : Option Int) : RVs K ct I (cutV vs lo hi) (cutD ds lo hi) := by
  unfold cutV cutD
  rw [h.length]
  exact (h.drop _).take _
theorem sIx_whole {α : Type} {xs : List α} {lo hi : Option Int} (h : HT.sIx xs.length 0 lo = 0 ∧ HT.sIx xs.length xs.length hi = xs.length) : (xs.drop (HT.sIx xs.length 0 lo)).take (HT.sIx xs.length xs.length hi - HT.sIx xs.length 0 lo) = xs := by
  rw [h.1, h.2]; simp
end
section
variable {ct : CT} {X : Cx} {Wx : WX} {a b e : Expr} {F G : Env → Out Vl} {A B : Env → Out (Option Int)} {lo hi : Option Expr} {p2 pos : Pos}
theorem do_none : DO ct X Wx none oNone := ⟨fun pins s σ H Q I h => by
  obtain ⟨W, ρ, rfl, R, h⟩ := h
  exact po_none.run pins s σ W.H Q I (h W (.refl _) R)⟩
theorem do_some (h : DE ct X Wx e F) : DO ct X Wx (some e) (oSome F) := ⟨fun pins s σ H Q I hh => by
  refine (po_some h).run pins s σ H Q I ?_
  obtain ⟨W, ρ, rfl, R, hh⟩ := hh
  refine ⟨W, ρ, rfl, R, EPost.bindO hh fun vl ρ1 v W1 s1 R1 r1 h1 => ?_⟩
  cases el : lookD vl ρ1 with
  | none => rw [el] at h1; exact h1.elim
  | some d =>
    rw [el] at h1
    cases d with
    | int i => exact ⟨i, r1.rl R1 el, h1 W1 s1 R1⟩
    | none => exact h1.elim
    | bool _ => exact h1.elim
    | str _ => exact h1.elim
    | list _ => exact h1.elim
    | tuple _ => exact h1.elim
    | dict _ => exact h1.elim⟩
theorem sl_all : SlR X (rSlAll X.K) := SlR.or sl_list (SlR.or sl_tupA sl_str)
theorem de_cut (he : DE ct X Wx e F) (hl : DO ct X Wx lo A) (hu : DO ct X Wx hi B) : DE ct X Wx (.Subscript e (.Slice lo hi none p2) pos) (dCut F A B) := pe_imp (pe_slice sl_all he hl hu) fun σ H Q h => by
  obtain ⟨W, ρ, rfl, R, h⟩ := h
  refine ⟨W, ρ, rfl, R, EPost.bind h fun vl ρ1 v W1 s1 R1 r1 h1 => ⟨W1, ρ1, rfl, R1, OPost.bindE s1 h1 fun l ρ2 W2 s2 R2 h2 => ⟨W2, ρ2, rfl, R2, OPost.bindE (s1.trans s2) h2 fun u ρ3 W3 s3 R3 h3 => ?_⟩⟩⟩
  cases el : lookD vl ρ3 with
  | none => rw [el] at h3; exact h3.elim
  | some d =>
    rw [el] at h3
    simp only [Option.bind_some] at h3
    have rl := ((r1.keep s2).keep s3).rl R3 el
    have s03 := (s1.trans s2).trans s3
    cases d with
    | list ds =>
      obtain ⟨p, vs, rfl, q, r⟩ := rl
      have rr := R3.res (res := .lst (cutD ds l u)) (h3.mono s03)
      exact .inl ⟨p, vs, rfl, .of q, fun p' hp' => rr p' _ hp' (r.cut l u)⟩
    | tuple ds =>
      obtain ⟨p, vs, rfl, q, r⟩ := rl
      have rr := R3.res (res := .tup (cutD ds l u)) (h3.mono s03)
      refine .inr (.inl ⟨p, vs, rfl, same_t R3.same q, fun hw => ?_, fun _ p' hp' => rr.2 p' _ hp' (r.cut l u)⟩)
      have : cutD ds l u = ds := by
        have hw' := hw
        rw [r.length] at hw'
        exact sIx_whole hw'
      rw [this] at rr
      exact rr.1 _ (.tup q r)
    | str z =>
      by_cases hz : z.length ≤ sizeLine
      · simp only [gCut, if_pos hz] at h3
        exact .inr (.inr ⟨z, rl, hz, h3 _ W3 s03 R3 (.dat (.str _))⟩)
      · simp only [gCut, if_neg hz] at h3
        exact h3.elim
    | none => exact h3.elim
    | bool _ => exact h3.elim
    | int _ => exact h3.elim
    | dict _ => exact h3.elim
end
/-! ### isinstance -/
def tyD : D → String
  | .none => "NoneType"
  | .bool _ => "bool"
  | .int _ => "int"
  | .str _ => "str"
  | .list _ => "list"
  | .tuple _ => "tuple"
  | .dict _ => "dict"
/-- of T, or of a class below it -/
def isTn (t T : String) : Bool := t == T || (t == "bool" && T == "int")
def isT (T : String) (d : D) : Bool := isTn (tyD d) T
@[simp] theorem isT_int_int (i : Int) : isT "int" (.int i) = true := by simp [isT, isTn, tyD]
@[simp] theorem isT_int_bool (i : Bool) : isT "int" (.bool i) = true := by simp [isT, isTn, tyD]
@[simp] theorem isT_int_none : isT "int" .none = false := by simp [isT, isTn, tyD]
@[simp] theorem isT_int_str (x : Str) : isT "int" (.str x) = false := by simp [isT, isTn, tyD]
@[simp] theorem isT_int_list (x : List D) : isT "int" (.list x) = false := by simp [isT, isTn, tyD]
@[simp] theorem isT_int_tuple (x : List D) : isT "int" (.tuple x) = false := by simp [isT, isTn, tyD]
@[simp] theorem isT_bool_int (i : Int) : isT "bool" (.int i) = false := by simp [isT, isTn, tyD]
@[simp] theorem isT_bool_bool (i : Bool) : isT "bool" (.bool i) = true := by simp [isT, isTn, tyD]
@[simp] theorem isT_bool_none : isT "bool" .none = false := by simp [isT, isTn, tyD]
@[simp] theorem isT_bool_str (x : Str) : isT "bool" (.str x) = false := by simp [isT, isTn, tyD]
@[simp] theorem isT_bool_list (x : List D) : isT "bool" (.list x) = false := by simp [isT, isTn, tyD]
@[simp] theorem isT_bool_tuple (x : List D) : isT "bool" (.tuple x) = false := by simp [isT, isTn, tyD]
@[simp] theorem isT_str_int (i : Int) : isT "str" (.int i) = false := by simp [isT, isTn, tyD]
@[simp] theorem isT_str_bool (i : Bool) : isT "str" (.bool i) = false := by simp [isT, isTn, tyD]
@[simp] theorem isT_str_none : isT "str" .none = false := by simp [isT, isTn, tyD]
@[simp] theorem isT_str_str (x : Str) : isT "str" (.str x) = true := by simp [isT, isTn, tyD]
@[simp] theorem isT_str_list (x : List D) : isT "str" (.list x) = false := by simp [isT, isTn, tyD]
@[simp] theorem isT_str_tuple (x : List D) : isT "str" (.tuple x) = false := by simp [isT, isTn, tyD]
@[simp] theorem isT_list_int (i : Int) : isT "list" (.int i) = false := by simp [isT, isTn, tyD]
@[simp] theorem isT_list_bool (i : Bool) : isT "list" (.bool i) = false := by simp [isT, isTn, tyD]
@[simp] theorem isT_list_none : isT "list" .none = false := by simp [isT, isTn, tyD]
@[simp] theorem isT_list_str (x : Str) : isT "list" (.str x) = false := by simp [isT, isTn, tyD]
@[simp] theorem isT_list_list (x : List D) : isT "list" (.list x) = true := by simp [isT, isTn, tyD]
@[simp] theorem isT_list_tuple (x : List D) : isT "list" (.tuple x) = false := by simp [isT, isTn, tyD]
@[simp] theorem isT_tuple_int (i : Int) : isT "tuple" (.int i) = false := by simp [isT, isTn, tyD]
@[simp] theorem isT_tuple_bool (i : Bool) : isT "tuple" (.bool i) = false := by simp [isT, isTn, tyD]
@[simp] theorem isT_tuple_none : isT "tuple" .none = false := by simp [isT, isTn, tyD]
@[simp] theorem isT_tuple_str (x : Str) : isT "tuple" (.str x) = false := by simp [isT, isTn, tyD]
@[simp] theorem isT_tuple_list (x : List D) : isT "tuple" (.list x) = false := by simp [isT, isTn, tyD]
@[simp] theorem isT_tuple_tuple (x : List D) : isT "tuple" (.tuple x) = true := by simp [isT, isTn, tyD]
def okT (T : String) : Bool := T == "int" || T == "bool" || T == "str" || T == "list" || T == "tuple"
theorem kit_tab : ∀ t ∈ ["NoneType", "bool", "int", "str", "list", "tuple"], ∀ T ∈ ["int", "bool", "str", "list", "tuple"], kitB t T = some (isTn t T) := by decide +kernel
theorem kitB_ok : ∀ {T : String}, okT T = true → ∀ {d : D}, (∀ k, d ≠ .dict k) → kitB (tyD d) T = some (isT T d) := by
  intro T h d hd
  have hT : T ∈ ["int", "bool", "str", "list", "tuple"] := by simpa [okT, or_assoc] using h
  have ht : tyD d ∈ ["NoneType", "bool", "int", "str", "list", "tuple"] := by
    cases d with
    | dict k => exact absurd rfl (hd k)
    | _ => simp [tyD]
  exact kit_tab _ ht _ hT
theorem rl_ty {K : PySem.W.Frag} {ct : CT} {I H : Hp} {v : V} {d : D} (e : Same I H) (h : RL K ct I H v d) (hd : ∀ k, d ≠ .dict k) : TyX K H v (.type (tyD d)) := by
  cases d with
  | none => rw [show v = .non from h]; exact .base .non
  | bool b => rw [show v = .bl b from h]; exact .base (.bl b)
  | int b => rw [show v = .int b from h]; exact .base (.int b)
  | str b => rw [show v = .str b from h]; exact .base (.str b)
  | list b => obtain ⟨a, vs, rfl, q, _⟩ := h; exact .base (.lst q)
  | tuple b =>
    obtain ⟨a, vs, rfl, q, _⟩ := h
    rcases same_t e q with (q | ⟨o, q⟩) | ⟨o, its, n, q, c, _⟩
    · exact .base (.tup q)
    · exact .fTuple q
    · exact .kTuple q c
  | dict k => exact absurd rfl (hd k)
def dIsi (Ts : List String) (F : Env → Out Vl) : Env → Out Vl := fun ρ => (F ρ).bind fun x ρ1 => match lookD x ρ1 with
  | some (.dict _) => .bad
  | some d => .ok (dB (Ts.any fun T => isT T d)) ρ1
  | none => .bad
section
variable {ct : CT} {X : Cx} {Wx : WX} {a b e : Expr} {F G : Env → Out Vl} {p p1 pos : Pos}
/-- isinstance(e, T) -/
theorem de_isi {x : Str} {T : String} (hT : okT T = true) (hg : Gl X "isinstance") (hm : X.mg "isinstance" = none) (hgT : Gl X x) (hmT : X.mg x = none) (hvT : bootBuiltins x = some (.type T)) (he : DE ct X Wx e F) (hn : x ≠ "__name__" := by decide) (hdb : (x == ("__debug__" : Str)) = false := by decide)
    (h1 : starEach (e :: [.Name x p1]) X.env = (false, eval e X.env) :: starEach [.Name x p1] X.env := by rfl) (h2 : starEach (.Name x p1 :: []) X.env = (false, eval (.Name x p1) X.env) :: starEach [] X.env := by rfl) (hpl : (backTo pos (starEach [.Name x p1] X.env)).any (·.1) = false := by rfl) :
    DE ct X Wx (.Call (.Name "isinstance" p) [e, .Name x p1] [] pos) (dIsi [T] F) :=
  pe_imp (pe_callB call_isi hg hm (by decide +kernel) (pa_cons he (pa_cons (pe_bltn (v := .ty T) hgT hmT hvT rfl hn hdb) pa_nil h2) h1) (by decide) (by decide) h1 hpl) fun σ H Q h => by
    obtain ⟨W, ρ, rfl, R, h⟩ := h
    refine ⟨W, ρ, rfl, R, EPost.bind h fun vl ρ1 v W1 s1 R1 r1 h1 => ?_⟩
    cases el : lookD vl ρ1 with
    | none => rw [el] at h1; exact h1.elim
    | some d =>
      rw [el] at h1
      have hd : ∀ k, d ≠ .dict k := fun k q => by subst q; exact h1
      have h1' : EPost X.K ct W σ Wx (.ok (dB (isT T d)) ρ1) Q := by
        cases d <;> first | (simpa using h1) | exact h1.elim
      exact ⟨v, .ty T, .type (tyD d), .type T, isT T d, rfl, .ty T, rl_ty R1.same (r1.rl R1 el) hd, kit_ty (kitB_ok hT hd), h1' _ W1 s1 R1 (.dat (.bl _))⟩
/-- isinstance(e, (S, T)) -/
theorem de_isi2 {x y : Str} {S T : String} {k : Nat} {p2 p3 : Pos} (hS : okT S = true) (hT : okT T = true) (hg : Gl X "isinstance") (hm : X.mg "isinstance" = none) (hgS : Gl X x) (hmS : X.mg x = none) (hvS : bootBuiltins x = some (.type S)) (hgT : Gl X y) (hmT : X.mg y = none) (hvT : bootBuiltins y = some (.type T)) (he : DE ct X Wx e F)
    (hnx : x ≠ "__name__" := by decide) (hdx : (x == ("__debug__" : Str)) = false := by decide) (hny : y ≠ "__name__" := by decide) (hdy : (y == ("__debug__" : Str)) = false := by decide)
    (h1 : starEach (e :: [.Tuple [.Name x p1, .Name y p2] k p3]) X.env = (false, eval e X.env) :: starEach [.Tuple [.Name x p1, .Name y p2] k p3] X.env := by rfl)
    (h2 : starEach (.Tuple [.Name x p1, .Name y p2] k p3 :: []) X.env = (false, eval (.Tuple [.Name x p1, .Name y p2] k p3) X.env) :: starEach [] X.env := by rfl)
    (h3 : starEach (.Name x p1 :: [.Name y p2]) X.env = (false, eval (.Name x p1) X.env) :: starEach [.Name y p2] X.env := by rfl)
    (h4 : starEach (.Name y p2 :: []) X.env = (false, eval (.Name y p2) X.env) :: starEach [] X.env := by rfl)
    (hpl : (backTo pos (starEach [.Tuple [.Name x p1, .Name y p2] k p3] X.env)).any (·.1) = false := by rfl) :
    DE ct X Wx (.Call (.Name "isinstance" p) [e, .Tuple [.Name x p1, .Name y p2] k p3] [] pos) (dIsi [S, T] F) :=
  pe_imp (pe_callB call_isiT hg hm (by decide +kernel) (pa_cons he (pa_cons (pe_tup (pa_cons (pe_bltn (v := .ty S) hgS hmS hvS rfl hnx hdx) (pa_cons (pe_bltn (v := .ty T) hgT hmT hvT rfl hny hdy) pa_nil h4) h3)) pa_nil h2) h1) (by decide) (by decide) h1 hpl) fun σ H Q h => by
    obtain ⟨W, ρ, rfl, R, h⟩ := h
    refine ⟨W, ρ, rfl, R, EPost.bind h fun vl ρ1 v W1 s1 R1 r1 h1 => ⟨by show 2 ≤ sizeLine; decide, fun t ht => ?_⟩⟩
    obtain ⟨s2, R2⟩ := R1.layI ht (.tup [.ty S, .ty T])
    cases el : lookD vl ρ1 with
    | none => rw [el] at h1; exact h1.elim
    | some d =>
      rw [el] at h1
      have hd : ∀ k, d ≠ .dict k := fun k q => by subst q; exact h1
      have h1' : EPost X.K ct W σ Wx (.ok (dB (isT S d || isT T d)) ρ1) Q := by
        cases d <;> first | (simpa using h1) | exact h1.elim
      have rl := (r1.keep s2).rl R2 el
      refine ⟨v, t, [.ty S, .ty T], .type (tyD d), [.type S, .type T], isT S d || isT T d, rfl, upd_same, .cons (.ty S) (.cons (.ty T) .nil), rl_ty R2.same rl hd, ?_, h1' (.bl (isT S d || isT T d)) ⟨upd W1.I t (.tup [.ty S, .ty T]), upd W1.H t (.tup [.ty S, .ty T]), W1.w⟩ (s1.trans s2) R2 (.dat (.bl _))⟩
      refine kitAny_cons (kit_ty (kitB_ok hS hd)) (fun e1 => ?_) (fun e1 => by rw [e1]; rfl)
      rw [e1, Bool.false_or]
      exact kitAny_cons (b := isT T d) (kit_ty (kitB_ok hT hd)) (fun e2 => by rw [e2]; exact kitAny_nil) (fun e2 => e2)
end
/-! ### all, any of bools -/
def boolsD : List D → Option (List Bool)
  | [] => some []
  | .bool b :: ds => (boolsD ds).map (b :: ·)
  | _ => none
def gAll : List D → Option Res
  | [.list ds] => (boolsD ds).map fun bs => .d (.bool (bs.all id))
  | _ => none
def gAny : List D → Option Res
  | [.list ds] => (boolsD ds).map fun bs => .d (.bool (bs.any id))
  | _ => none
section
variable {K : PySem.W.Frag} {ct : CT}
theorem bools_of {I : Hp} : ∀ {vs : List V} {ds : List D} {bs : List Bool}, RVs K ct I vs ds → boolsD ds = some bs → vs = bs.map V.bl
  | _, [], _, .nil, e => by cases e; rfl
  | _, .bool b :: ds, bs, .cons h r, e => by
    obtain ⟨cs, e1, rfl⟩ := Option.map_eq_some_iff.mp e
    cases h
    rw [bools_of r e1]; rfl
  | _, .none :: _, _, .cons _ _, e => by cases e
  | _, .int _ :: _, _, .cons _ _, e => by cases e
  | _, .str _ :: _, _, .cons _ _, e => by cases e
  | _, .list _ :: _, _, .cons _ _, e => by cases e
  | _, .tuple _ :: _, _, .cons _ _, e => by cases e
  | _, .dict _ :: _, _, .cons _ _, e => by cases e
theorem callD_all : CallD K ct (rAll K) gAll := by
  intro I H vs ds res Q hs hx hg q
  unfold gAll at hg
  split at hg
  · obtain ⟨bs, e1, rfl⟩ := Option.map_eq_some_iff.mp hg
    obtain ⟨v, rfl, a, ws, rfl, h1, r1⟩ := hx.one
    have := bools_of r1 e1
    subst this
    exact ⟨a, bs, rfl, .of h1, q _ (.bl _)⟩
  · cases hg
theorem callD_any : CallD K ct (rAny K) gAny := by
  intro I H vs ds res Q hs hx hg q
  unfold gAny at hg
  split at hg
  · obtain ⟨bs, e1, rfl⟩ := Option.map_eq_some_iff.mp hg
    obtain ⟨v, rfl, a, ws, rfl, h1, r1⟩ := hx.one
    have := bools_of r1 e1
    subst this
    exact ⟨a, bs, rfl, .of h1, q _ (.bl _)⟩
  · cases hg
end
/-! ### xs.insert(k, e) -/
def sIns (i : Nat) (G F : Env → Out Vl) : Env → SOut := fun ρ => match ρ.getD i .non with
  | .own _ => match G ρ with
    | .ok k ρ0 => match lookD k ρ0 with
      | some (.int j) => match (F ρ0).bind frz with
        | .ok d ρ1 => match ρ1.getD i .non with
          | .own xs => if xs.length < sizeLine ∧ 0 ≤ j ∧ j < 2 ^ 63 then .nx (ρ1.set i (.own (xs.take j.toNat ++ [d] ++ xs.drop j.toNat))) else .bad
          | _ => .bad
        | .err e ρ1 => .er e ρ1
        | .bad => .bad
      | _ => .bad
    | .err e ρ0 => .er e ρ0
    | .bad => .bad
  | _ => .bad
section
variable {ct : CT} {X : Cx} {Wx : WX} {n : Nat} {a b e ix : Expr} {F G : Env → Out Vl} {p p1 pos : Pos}
theorem ins_rd {i : Nat} {r : V → List V → Hp → VK → Prop} (hr : r = fun x vs H Q => ∃ (l : Addr) (xs : List V) (i : Int) (y : V), x = .ref l ∧ vs = [.int i, y] ∧ H l = some (.lst xs) ∧ xs.length < sizeLine ∧ 0 ≤ i ∧ i < 2 ^ 63 ∧ Q .non (upd H l (.lst (xs.take i.toNat ++ [y] ++ xs.drop i.toNat))))
    (Y : Ends) (σ : L2.St) (H : Hp) (h : rdS X.K ct n Wx (sIns i G F) Y σ H) : tDrop (tBM X.K "list" r (tVar i) (tCons (rdE X.K ct Wx G) (tCons (rdE X.K ct Wx F) tNil))) Y σ H := by
  subst hr
  obtain ⟨W, ρ, rfl, R, h⟩ := h
  simp only [sIns] at h
  cases eo : ρ.getD i .non with
  | non => rw [eo] at h; exact h.elim
  | dat _ => rw [eo] at h; exact h.elim
  | obj _ _ => rw [eo] at h; exact h.elim
  | exn _ => rw [eo] at h; exact h.elim
  | own xs0 =>
    rw [eo] at h
    simp only [] at h
    obtain ⟨a, vs0, ha, hH0, _⟩ := R.write (ys := xs0) eo
    refine ⟨.ref a, ha, .inl ⟨rfl, vs0, .of hH0⟩, W, ρ, rfl, R, ?_⟩
    cases eg : G ρ with
    | err er ρ1 => rw [eg] at h; exact fun c d W' s R r => h c d σ W' s R .refl r
    | bad => rw [eg] at h; exact h
    | ok k ρ0 =>
      rw [eg] at h
      simp only [] at h
      intro kv W0 s0 R0 r0
      cases el : lookD k ρ0 with
      | none => rw [el] at h; exact h.elim
      | some kd =>
        rw [el] at h
        cases kd with
        | none => exact h.elim
        | bool _ => exact h.elim
        | str _ => exact h.elim
        | list _ => exact h.elim
        | tuple _ => exact h.elim
        | dict _ => exact h.elim
        | int j =>
          simp only [] at h
          have ej : kv = .int j := r0.rl R0 el
          refine ⟨W0, ρ0, rfl, R0, ?_⟩
          cases e : F ρ0 with
          | err er ρ1 => rw [e] at h; exact fun c d W' s R r => h c d σ W' (s0.trans s) R .refl r
          | bad => rw [e] at h; exact h
          | ok vl ρ1 =>
            rw [e] at h
            intro v W1 s1 R1 r1
            simp only [Out.bind_ok] at h
            cases ef : frz vl ρ1 with
            | bad => rw [ef] at h; exact h.elim
            | err e ρ' => exact (frz_noerr ef).elim
            | ok d ρ2 =>
              rw [ef] at h
              simp only [] at h
              obtain ⟨W2, eH, s2, R2, rv⟩ := frz_ok s1 R1 r1 ef
              rw [← eH]
              cases eo' : ρ2.getD i .non with
              | non => rw [eo'] at h; exact h.elim
              | dat _ => rw [eo'] at h; exact h.elim
              | obj _ _ => rw [eo'] at h; exact h.elim
              | exn _ => rw [eo'] at h; exact h.elim
              | own xs =>
                rw [eo'] at h
                simp only [] at h
                split at h
                · rename_i hz
                  obtain ⟨a', vs, ha', hH, rvs, wr⟩ := R2.write (ys := xs.take j.toNat ++ [d] ++ xs.drop j.toNat) eo'
                  have ea : a' = a := by
                    rw [ha] at ha'; cases ha'; rfl
                  subst ea
                  obtain ⟨s4, R4⟩ := wr (vs.take j.toNat ++ [v] ++ vs.drop j.toNat) (((rvs.take _).append (.one rv)).append (rvs.drop _))
                  exact ⟨a', vs, j, v, rfl, by rw [ej], hH, by rw [rvs.length]; exact hz.1, hz.2.1, hz.2.2, h σ _ ((s0.trans s2).trans s4) R4 .refl⟩
                · exact h.elim
theorem ds_ins {i : Nat} {x : Str} {apos cpos : Pos} (ho : PE X (.Name x p1) (tVar i)) (hi : DE ct X Wx ix G) (he : DE ct X Wx e F) (hs : swapsWith (.Call (.Attribute (.Name x p1) "insert" apos) [ix, e] [] cpos) none pos.line X.env = pure false := by rfl)
    (hbase : attributeBase (.Name x p1) "insert" X.env (eval (.Name x p1) X.env) = eval (.Name x p1) X.env := by rfl)
    (hfew : ((backTo cpos (starEach [ix, e] X.env)).all (fun x => !x.1) && (backToKw cpos (keywordEach [] X.env)).all (fun x => x.1.isSome)
      && decide ([ix, e].length + ([] : List Keyword).length + (if ([] : List Keyword).isEmpty then 0 else 1) < 30)) = true := by rfl)
    (hline : (apos.endLine == cpos.line) = true := by rfl) (hst : starEach [ix, e] X.env = (false, eval ix X.env) :: starEach [e] X.env := by rfl) (hst2 : starEach [e] X.env = (false, eval e X.env) :: starEach [] X.env := by rfl) (hplain : (backTo cpos (starEach [e] X.env)).any (·.1) = false := by rfl) :
    DS ct X Wx n (.Expr (.Call (.Attribute (.Name x p1) "insert" apos) [ix, e] [] cpos) pos) (sIns i G F) :=
  ps_imp (ps_expr (pe_bm PySem.F.plainAttrs_list PySem.F.slot_list_insert PySem.F.type_list_insert mt_insert ho (pa_cons hi (pa_cons he pa_nil hst2) hst) hbase hfew hline hst hplain) hs) (ins_rd rfl)
end
/-! ### a < b < c; list(range(..)) -/
def dChn (g g' : D → D → Option Res) (F G E : Env → Out Vl) : Env → Out Vl := fun ρ => (F ρ).bind fun x ρ1 => (G ρ1).bind fun y ρ2 =>
  match lookD x ρ2, lookD y ρ2 with
  | some d, some e => match g d e with
    | some (.d (.bool true)) => (E ρ2).bind fun z ρ3 => match lookD y ρ3, lookD z ρ3 with
      | some e', some f => match g' e' f with
        | some r => .ok r.vl ρ3
        | none => .bad
      | _, _ => .bad
    | some (.d (.bool false)) => .ok (dB false) ρ2
    | _ => .bad
  | _, _ => .bad
section
variable {ct : CT} {X : Cx} {Wx : WX} {n : Nat} {a b c : Expr} {F G E : Env → Out Vl} {p p1 pos : Pos}
theorem de_chn {op op' : CmpOp} {r r' : R2} {g g' : D → D → Option Res} (ho : OpR X (compareOp op) r) (hg : OpD X.K ct r g) (ho' : OpR X (compareOp op') r') (hg' : OpD X.K ct r' g') (ha : DE ct X Wx a F) (hb : DE ct X Wx b G) (hc : DE ct X Wx c E)
    (hm : lastMarks [op, op'] [b, c] = false := by with_unfolding_all rfl) : DE ct X Wx (.Compare a [op, op'] [b, c] pos) (dChn g g' F G E) :=
  pe_imp (pe_chain ho ho' ha hb hc hm) fun σ H Q h => by
    obtain ⟨W, ρ, rfl, R, h⟩ := h
    refine ⟨W, ρ, rfl, R, EPost.bind h fun vx ρ1 x W1 s1 R1 r1 h1 => ⟨W1, ρ1, rfl, R1, ?_⟩⟩
    cases eg : G ρ1 with
    | err er ρ2 => rw [eg] at h1; exact fun c d W' s R r => h1 c d W' (s1.trans s) R r
    | bad => rw [eg] at h1; exact h1
    | ok vy ρ2 =>
      rw [eg] at h1
      simp only [Out.bind_ok] at h1
      intro y W2 s2 R2 r2
      cases e1 : lookD vx ρ2 with
      | none => simp only [e1] at h1; exact h1.elim
      | some d =>
        cases e2 : lookD vy ρ2 with
        | none => simp only [e1, e2] at h1; exact h1.elim
        | some e =>
          simp only [e1, e2] at h1
          have rx := (r1.keep s2).rl R2 e1
          have ry := r2.rl R2 e2
          cases e3 : g d e with
          | none => simp only [e3] at h1; exact h1.elim
          | some res =>
            rw [e3] at h1
            cases res with
            | tup _ => exact h1.elim
            | lst _ => exact h1.elim
            | d z =>
              cases z with
              | bool k =>
                refine hg W2.I W2.H x y d e _ _ R2.same rx ry e3 fun v rv => ?_
                cases rv
                refine ⟨k, rfl, ?_⟩
                cases k with
                | false => exact h1 _ W2 (s1.trans s2) R2 (.dat (.bl false))
                | true =>
                  simp only [] at h1
                  refine ⟨W2, ρ2, rfl, R2, ?_⟩
                  cases eE : E ρ2 with
                  | err er ρ3 => rw [eE] at h1; exact fun c d W' s R r => h1 c d W' ((s1.trans s2).trans s) R r
                  | bad => rw [eE] at h1; exact h1
                  | ok vz ρ3 =>
                    rw [eE] at h1
                    simp only [Out.bind_ok] at h1
                    intro z W3 s3 R3 r3
                    cases e4 : lookD vy ρ3 with
                    | none => simp only [e4] at h1; exact h1.elim
                    | some e' =>
                      cases e5 : lookD vz ρ3 with
                      | none => simp only [e4, e5] at h1; exact h1.elim
                      | some f =>
                        simp only [e4, e5] at h1
                        cases e6 : g' e' f with
                        | none => simp only [e6] at h1; exact h1.elim
                        | some res =>
                          simp only [e6] at h1
                          exact hg' W3.I W3.H y z e' f res Q R3.same ((r2.keep s3).rl R3 e4) (r3.rl R3 e5) e6 (R3.res (h1.mono ((s1.trans s2).trans s3)))
              | none => exact h1.elim
              | int _ => exact h1.elim
              | str _ => exact h1.elim
              | list _ => exact h1.elim
              | tuple _ => exact h1.elim
              | dict _ => exact h1.elim
def okRg (a b : Int) : Bool := decide (-(2 ^ 62) ≤ a ∧ a < 2 ^ 62 ∧ -(2 ^ 62) ≤ b ∧ b < 2 ^ 62 ∧ (b - a).toNat ≤ 2 ^ 24)
def dLRg1 (F : Env → Out Vl) : Env → Out Vl := fun ρ => (F ρ).bind fun x ρ1 => match lookD x ρ1 with
  | some (.int j) => if okRg 0 j then .ok (.sl (.own (rngD 0 j.toNat))) ρ1 else .bad
  | _ => .bad
theorem rvs_rg {K : PySem.W.Frag} {I : Hp} (a : Int) : ∀ n : Nat, RVs K ct I ((List.range n).map fun i => V.int (a + (i : Nat))) (rngD a n) := by
  intro n
  unfold rngD
  generalize List.range n = l
  induction l with
  | nil => exact .nil
  | cons i l ih => exact .cons (.int _) ih
theorem de_lrg1 (hc : X.calm = true) (hg : Gl X "list") (hm : X.mg "list" = none) (hgr : Gl X "range") (hmr : X.mg "range" = none) (ha : DE ct X Wx a F) (na : starEach [.Call (.Name "range" p1) [a] [] pos] X.env = (false, eval (.Call (.Name "range" p1) [a] [] pos) X.env) :: starEach [] X.env := by rfl)
    (nb : starEach [a] X.env = (false, eval a X.env) :: starEach [] X.env := by rfl) {pos2 : Pos} : DE ct X Wx (.Call (.Name "list" p) [.Call (.Name "range" p1) [a] [] pos] [] pos2) (dLRg1 F) :=
  pe_imp (pe_listRg hc hg hm (prg_1 hgr hmr ha nb) na) fun σ H Q h => by
    obtain ⟨W, ρ, rfl, R, h⟩ := h
    refine ⟨W, ρ, rfl, R, EPost.bind h fun vx ρ1 x W1 s1 R1 r1 h1 => ?_⟩
    cases e1 : lookD vx ρ1 with
    | none => rw [e1] at h1; exact h1.elim
    | some d =>
      rw [e1] at h1
      cases d with
      | int j =>
        simp only [] at h1
        split at h1
        · rename_i hj
          have rr := R1.res (res := .lst (rngD 0 j.toNat)) (h1.mono s1)
          have hj' : RgOk 0 j := by
            unfold okRg at hj
            unfold RgOk
            exact of_decide_eq_true hj
          refine ⟨j, r1.rl R1 e1, hj', fun q hq => rr q _ hq ?_⟩
          unfold rgV
          rw [show (j - 0) = j by omega]
          exact rvs_rg 0 _
        · exact h1.elim
      | none => exact h1.elim
      | bool _ => exact h1.elim
      | str _ => exact h1.elim
      | list _ => exact h1.elim
      | tuple _ => exact h1.elim
      | dict _ => exact h1.elim
end
end DL
end
section
set_option Elab.async false
set_option linter.all false
set_option maxRecDepth 100000
namespace DL
open PySem PySem.Spec PyProof.Rows L2
/-! ### instances: fields -/
def fldOf (c : Str) (f : Str) : D → Option D
  | .dict ((.str c', .none) :: kvs) => if c' = c then (kvs.map fun p => ((match p.1 with | .str g => g | _ => Str.ofString ""), p.2)).lookup f else none
  | _ => none
theorem fldOf_ins {c : Str} {f : Str} {fs : List (Str × D)} : fldOf c f (insD c fs) = fs.lookup f := by
  unfold fldOf insD
  simp only [if_true, List.map_map]
  congr 1
  induction fs with
  | nil => rfl
  | cons p fs ih => rw [List.map_cons, ih]; rfl
def gFld (c : Str) (f : Str) (d : D) : Option Res := (fldOf c f d).map .d
section
variable {K : PySem.W.Frag} {ct : CT} {I I' : Hp}
theorem RFs.lookup : ∀ {gs : List (Str × V)} {fs : List (Str × D)} {f : Str} {d : D}, RFs K ct I gs fs → fs.lookup f = some d → ∃ v, gs.lookup f = some v ∧ RV K ct I v d
  | _, _, f, d, .nil, e => by cases e
  | _, _, f, d, .cons (n := n) h r, e => by
    rw [List.lookup_cons] at e ⊢
    cases q : f == n with
    | true => rw [q] at e; cases e; exact ⟨_, rfl, h⟩
    | false => rw [q] at e; exact RFs.lookup r e
theorem RFs.none : ∀ {gs : List (Str × V)} {fs : List (Str × D)} {f : Str}, RFs K ct I gs fs → fs.lookup f = none → gs.lookup f = none
  | _, _, f, .nil, e => rfl
  | _, _, f, .cons (n := n) h r, e => by
    rw [List.lookup_cons] at e ⊢
    cases q : f == n with
    | true => rw [q] at e; cases e
    | false => rw [q] at e; exact RFs.none r e
theorem insD_inj {c c' : Str} {fs fs' : List (Str × D)} (h : insD c fs = insD c' fs') : c = c' ∧ fs = fs' := by
  unfold insD at h
  simp only [PyData.dict.injEq, List.cons.injEq, Prod.mk.injEq, PyData.str.injEq, and_true] at h
  refine ⟨h.1, ?_⟩
  have : ∀ (a b : List (Str × D)), (a.map fun p => (PyData.str p.1, p.2)) = (b.map fun p => (PyData.str p.1, p.2)) → a = b := by
    intro a
    induction a with
    | nil => intro b e; cases b with
      | nil => rfl
      | cons _ _ => cases e
    | cons p a ih => intro b e; cases b with
      | nil => cases e
      | cons q b =>
        rw [List.map_cons, List.map_cons, List.cons.injEq, Prod.mk.injEq, PyData.str.injEq] at e
        rw [ih b e.2, Prod.ext e.1.1 e.1.2]
  exact this _ _ h.2
/-- what an instance is, read -/
theorem RL.ins {H : Hp} {v : V} {c : Str} {fs : List (Str × D)} (h : RL K ct I H v (insD c fs)) : ∃ a dx gs, v = .ref a ∧ H a = some (.ins (ct.cls c) dx gs) ∧ H dx = some (.own a) ∧ RFs K ct I gs fs := by
  rcases h with ⟨c', ds, a, dx, gs, q, rfl, h1, h2, r⟩ | ⟨ds, a, vs, q, _⟩ | ⟨c', ds, a, dx, gs, q, _⟩
  · obtain ⟨rfl, rfl⟩ := insD_inj q
    exact ⟨a, dx, gs, rfl, h1, h2, r⟩
  · exact absurd q (by simp [scrD])
  · exact absurd q (by simp [insD, errD])
theorem fldOf_some {c : Str} {f : Str} {d e : D} {H : Hp} {v : V} (h : RL K ct I H v d) (hf : fldOf c f d = some e) : ∃ fs, d = insD c fs ∧ fs.lookup f = some e := by
  cases d with
  | dict kvs =>
    rcases h with ⟨c', ds, a, dx, gs, q, _⟩ | ⟨ds, a, vs, q, _⟩ | ⟨c', ds, a, dx, gs, q, _⟩
    · rw [q] at hf ⊢
      have hc : c' = c := by
        unfold fldOf insD at hf
        simp only [] at hf
        split at hf
        · rename_i e1; exact e1
        · cases hf
      subst hc
      rw [fldOf_ins] at hf
      exact ⟨ds, rfl, hf⟩
    · rw [q] at hf
      cases hf
    · rw [q] at hf
      cases hf
  | none => cases hf
  | bool _ => cases hf
  | int _ => cases hf
  | str _ => cases hf
  | list _ => cases hf
  | tuple _ => cases hf
end
section
variable {ct : CT} {X : Cx} {Wx : WX} {a b e : Expr} {F G : Env → Out Vl} {p p1 pos : Pos}
theorem de_fld {c : Str} {f : Str} (cl : Cls X.K (ct.cls c)) (na : NoAttr X.K (ct.cls c) f) (he : DE ct X Wx e F) (hb : attributeBase e f X.env (eval e X.env) = eval e X.env := by rfl) : DE ct X Wx (.Attribute e f pos) (dUn (gFld c f) F) :=
  pe_imp (pe_fld he hb) fun σ H Q h => un_rd (r := fun x H1 Q => ∃ a C dx fs v, x = .ref a ∧ H1 a = some (.ins C dx fs) ∧ Cls X.K C ∧ NoAttr X.K C f ∧ fs.lookup f = some v ∧ Q v H1) (fun I H x d res Q hs hx hg q => by
    obtain ⟨z, hz, rfl⟩ := Option.map_eq_some_iff.mp hg
    obtain ⟨fs, rfl, hl⟩ := fldOf_some hx hz
    obtain ⟨a, dx, gs, rfl, h1, h2, r⟩ := hx.ins
    obtain ⟨v, hv, rv⟩ := r.lookup hl
    exact ⟨a, _, dx, gs, v, rfl, h1, cl, na, hv, q v rv⟩) σ H Q h
end
/-! ### self.f = e, where self is one's own -/
def putD (f : Str) (d : D) : List (Str × D) → List (Str × D)
  | [] => [(f, d)]
  | (g, x) :: r => if g = f then (g, d) :: r else (g, x) :: putD f d r
theorem RFs.put {K : PySem.W.Frag} {ct : CT} {I : Hp} {f : Str} {v : V} {d : D} (h : RV K ct I v d) : ∀ {gs : List (Str × V)} {fs : List (Str × D)}, RFs K ct I gs fs → RFs K ct I (putF f v gs) (putD f d fs)
  | _, _, .nil => .cons h .nil
  | _, _, .cons (n := n) h' r => by
    unfold putF putD
    by_cases q : n = f
    · rw [if_pos q, if_pos q]; exact .cons h r
    · rw [if_neg q, if_neg q]; exact .cons h' (RFs.put h r)
theorem RFs.length {K : PySem.W.Frag} {ct : CT} {I : Hp} : ∀ {gs : List (Str × V)} {fs : List (Str × D)}, RFs K ct I gs fs → gs.length = fs.length
  | _, _, .nil => rfl
  | _, _, .cons _ r => congrArg (· + 1) (RFs.length r)
def sFldSet (c0 : Str) (i : Nat) (f : Str) (F : Env → Out Vl) : Env → SOut := fun ρ => match (F ρ).bind frz with
  | .ok d ρ1 => match ρ1.getD i .non with
    | .obj c fs => if c = c0 ∧ fs.length < 1000 then .nx (ρ1.set i (.obj c (putD f d fs))) else .bad
    | _ => .bad
  | .err e ρ1 => .er e ρ1
  | .bad => .bad
section
variable {K : PySem.W.Frag} {ct : CT} {n : Nat} {W0 W W1 W2 : Wd} {σ σ1 : L2.St} {ρ ρ' : Env} {Wx : WX}
theorem Rep.writeO (R : Rep K ct W σ ρ) {i : Nat} {c : Str} {fs : List (Str × DL.D)} (h : ρ.getD i .non = .obj c fs) : ∃ a dx gs, σ[i]? = some (some (.ref a)) ∧ W.H a = some (.ins (ct.cls c) dx gs) ∧ RFs K ct W.I gs fs ∧
    ∀ gs' fs', RFs K ct W.I gs' fs' → Wst W { W with H := upd W.H a (.ins (ct.cls c) dx gs') } ∧ Rep K ct { W with H := upd W.H a (.ins (ct.cls c) dx gs') } σ (ρ.set i (.obj c fs')) := by
  obtain ⟨v, as, h1, h2, h3⟩ := R.at h nofun
  obtain ⟨a, dx, gs, rfl, rfl, n, n', ha, hd, r⟩ := h3
  obtain ⟨nd, ns⟩ := notin_set R.nd h2
  have hne : dx ≠ a := fun q => by rw [q, ha] at hd; cases hd
  refine ⟨a, dx, gs, h1, ha, r, fun gs' fs' r' => ?_⟩
  have ma : a ∈ W.own := mem_at h2 (by simp)
  have up : ∀ b o, b ≠ a → W.H b = some o → upd W.H a (.ins (ct.cls c) dx gs') b = some o := fun b o q e => by rw [upd_ne q]; exact e
  refine ⟨⟨.refl _, fun b o e m => up b o (fun q => m (by rw [q]; exact ma)) e, fun b m => .inl m, fun b o e => .inl e, fun b o e => ?_⟩, fun b o e => ?_, ?_, R.nd⟩
  · by_cases q : b = a
    · rw [q]; exact ⟨_, upd_same⟩
    · exact ⟨o, up b o q e⟩
  · exact up b o (fun q => by rw [q, n] at e; cases e) (R.same b o e)
  · have Rn : Reps K ct W.I W.H (σ.set i none) (ρ.set i .non) (W.w.set i []) := R.reps.set i (o := none) (as := []) (s := .non) rfl
    have Rm := Rn.mono (I' := W.I) (H' := upd W.H a (.ins (ct.cls c) dx gs')) (.refl _) (fun _ _ h => h) (fun b m o e => up b o (fun q => ns a (by simp) (by rw [← q]; exact m)) e)
    have Rf := Rm.set i (o := some (.ref a)) (as := [a, dx]) (s := .obj c fs') ⟨_, rfl, a, dx, gs', rfl, rfl, n, n', upd_same, by rw [upd_ne hne]; exact hd, r'⟩
    rw [List.set_set, List.set_set, List.set_set, set_self h1, set_self h2] at Rf
    exact Rf
end
section
variable {ct : CT} {X : Cx} {Wx : WX} {n : Nat} {a b e o : Expr} {F G : Env → Out Vl} {p p1 pos pos' : Pos}
theorem fldSet_rd {i : Nat} {c0 f : Str} (cl : Cls X.K (ct.cls c0)) (na : NoAttr X.K (ct.cls c0) f) (Y : Ends) (σ : L2.St) (H : Hp) (h : rdS X.K ct n Wx (sFldSet c0 i f F) Y σ H) : sFld X.K (tVar i) (rdE X.K ct Wx F) f Y σ H := by
  obtain ⟨W, ρ, rfl, R, h⟩ := h
  simp only [sFldSet] at h
  refine ⟨W, ρ, rfl, R, ?_⟩
  cases e : F ρ with
  | err er ρ1 => rw [e] at h; exact fun c d W' s R r => h c d σ W' s R .refl r
  | bad => rw [e] at h; exact h
  | ok vl ρ1 =>
    rw [e] at h
    intro v W1 s1 R1 r1
    simp only [Out.bind_ok] at h
    cases ef : frz vl ρ1 with
    | bad => rw [ef] at h; exact h.elim
    | err e ρ' => exact (frz_noerr ef).elim
    | ok d ρ2 =>
      rw [ef] at h
      simp only [] at h
      obtain ⟨W2, eH, s2, R2, rv⟩ := frz_ok s1 R1 r1 ef
      rw [← eH]
      cases eo : ρ2.getD i .non with
      | non => rw [eo] at h; exact h.elim
      | dat _ => rw [eo] at h; exact h.elim
      | own _ => rw [eo] at h; exact h.elim
      | exn _ => rw [eo] at h; exact h.elim
      | obj c fs =>
        rw [eo] at h
        simp only [] at h
        split at h
        · rename_i hz
          obtain ⟨a, dx, gs, ha, hH, rf, wr⟩ := R2.writeO eo
          obtain ⟨rfl, hz⟩ := hz
          obtain ⟨s3, R3⟩ := wr _ _ (rf.put (f := f) rv)
          exact ⟨.ref a, ha, a, _, dx, gs, rfl, hH, cl, na, by rw [rf.length]; exact hz, h σ _ (s2.trans s3) R3 .refl⟩
        · exact h.elim
theorem ds_fldSet {i : Nat} {c0 f : Str} (cl : Cls X.K (ct.cls c0)) (na : NoAttr X.K (ct.cls c0) f) (ho : PE X o (tVar i)) (he : DE ct X Wx e F) (hs : swapsWith e (some (.Attribute o f pos')) pos.line X.env = pure false := by rfl) :
    DS ct X Wx n (.Assign [.Attribute o f pos'] e pos) (sFldSet c0 i f F) := ps_imp (ps_fld ho he hs) (fldSet_rd cl na)
end
end DL
end
section
set_option Elab.async false
set_option linter.all false
set_option maxRecDepth 100000
namespace DL
open PySem PySem.Spec PyProof.Rows L2
/-! ### raise -/
/-- an error's __init__(self, f): self.f = f -/
def spX1 (K : PySem.W.Frag) (f : Str) : Sp := fun vs H Q _ => ∃ (a C : Addr) (v : V), vs = [.ref a, v] ∧ OexC K C ∧ PySem.W.findIn K (.ref C) f = some none ∧ H a = some (exo a C none) ∧
  ∀ dx, H dx = none → dx ≠ a → Q .non (upd (upd H dx (exd dx [(f, v)])) a (exo a C (some dx)))
theorem init1_ok {P : Program} {w : World} {K : PySem.W.Frag} {mg : Str → Option Value} {base : Heap} {x qual f : Str} {st : Stmt} {fI : Addr} {fd : FuncData} {p1 p2 p3 p4 : Pos} {k : Nat} (F : Fun K x qual st fI fd) (S : FnScope ["self", f] ["self", f] (defScope st))
    (hb : defBody st = [.Assign [.Attribute (.Name "self" p1) f p2] (.Name f p3) p4]) (hl : (defScope st).names.lookup f = some .local) (hs : (defScope st).names.lookup ("self" : Str) = some .local) (hd : (f == ("__debug__" : Str)) = false) (hcd : (f == ("__classdict__" : Str)) = false) :
    FnOk P w K mg base (L2.CX P w) (k + 1) fI fd ["self", f] (spX1 K f) := by
  refine F.okX S (fun vs H Q E h => ?_) (fun cdv A outer s H vs Q E hr h => ?_)
  · obtain ⟨a, C, v, rfl, _⟩ := h; rfl
  · obtain ⟨a, C, v, rfl, T, hno, ha, q⟩ := h
    rw [hb]
    refine ⟨_, pss_one (ps_ost (pe_var (i := 0) rfl (.inl hs)) (pe_var (i := 1) rfl (.inl hl) hd hcd)), ?_⟩
    exact ⟨v, rfl, .ref a, rfl, a, C, rfl, T, hno, .inl ⟨ha, fun dx h1 h2 => q dx h1 h2⟩⟩
def sRaise (c f : Str) (F : Env → Out Vl) : Env → SOut := fun ρ => match (F ρ).bind frz with
  | .ok d ρ1 => .er (c, [(f, d)]) ρ1
  | .err e ρ1 => .er e ρ1
  | .bad => .bad
section
variable {ct : CT} {X : Cx} {Wx : WX} {n k : Nat} {fI : Addr} {fd : FuncData} {x f c : Str} {p pos pos2 : Pos} {e : Expr} {F : Env → Out Vl}
theorem ds_raise (hc : X.calm = true) (T : OexC X.K (ct.cls c)) (hno : PySem.W.findIn X.K (.ref (ct.cls c)) f = some none) (iC : PySem.W.findIn X.K (.ref (ct.cls c)) "__init__" = some (some (.ref fI))) (tI : PySem.W.typeIn X.K (.ref fI) = some (.type "function"))
    (F1 : FnOk X.prog X.w X.K X.mg X.base (L2.CX X.prog X.w) k fI fd ["self", f] (spX1 X.K f)) (hr : Room (k + 1) X.A) (hb : Binds X.K fd ["self", f] []) (hg : Gl X x) (hm : X.mg x = some (.ref (ct.cls c))) (tk : Takes X Wx) (he : DE ct X Wx e F)
    (hdb : (x == ("__debug__" : Str)) = false := by decide) (hst : starEach (e :: []) X.env = (false, eval e X.env) :: starEach [] X.env := by rfl) (hpl : (backTo pos (starEach [] X.env)).any (·.1) = false := by rfl) :
    DS ct X Wx n (.Raise (some (.Call (.Name x p) [e] [] pos)) none pos2) (sRaise c f F) :=
  ps_imp (ps_raise hc tk (pmk_oex T iC tI F1 hr hb .nil passL hg hm (pa_cons he pa_nil hst) hdb hst hpl)) fun Y σ H h => by
    obtain ⟨W, ρ, rfl, R, h⟩ := h
    simp only [sRaise] at h
    refine ⟨W, ρ, rfl, R, ?_⟩
    cases e : F ρ with
    | err er ρ1 => rw [e] at h; exact fun c d W' s R r => h c d σ W' s R .refl r
    | bad => rw [e] at h; exact h
    | ok vl ρ1 =>
      rw [e] at h
      intro v W1 s1 R1 r1
      simp only [Out.bind_ok] at h
      cases ef : frz vl ρ1 with
      | bad => rw [ef] at h; exact h.elim
      | err e ρ' => exact (frz_noerr ef).elim
      | ok d ρ2 =>
        rw [ef] at h
        simp only [] at h
        obtain ⟨W2, eH, s2, R2, rv⟩ := frz_ok s1 R1 r1 ef
        rw [← eH]
        refine ⟨by show 1 ≤ 1000; decide, fun a ha => ⟨a, ct.cls c, v, rfl, T, hno, upd_same, fun dx hdx hne => ⟨rfl, dx, [(f, v)], upd_same, ?_, ?_, ?_⟩⟩⟩
        · rw [upd_ne hne, upd_same]
        · rw [upd_ne hne] at hdx; exact hdx
        · rw [upd_ne hne] at hdx
          have eq : upd (del (upd (upd (upd W2.H a (exo a (ct.cls c) none)) dx (exd dx [(f, v)])) a (exo a (ct.cls c) (some dx))) a) dx (.xd [(f, v)]) = upd W2.H dx (.xd [(f, v)]) := by
            funext b
            by_cases q : b = dx
            · rw [q, upd_same, upd_same]
            · rw [upd_ne q, upd_ne q]
              by_cases q' : b = a
              · rw [q', del_same]; exact ha.symm
              · rw [del_ne q', upd_ne q', upd_ne q, upd_ne q']
          rw [eq]
          obtain ⟨s3, R3⟩ := R2.layI hdx (.xd [(f, v)])
          exact h _ (some dx) σ ⟨upd W2.I dx (.xd [(f, v)]), upd W2.H dx (.xd [(f, v)]), W2.w⟩ (s2.trans s3) R3 .refl ⟨rfl, dx, [(f, v)], rfl, upd_same, .cons (rv.mono s3.same) .nil⟩
end
end DL
end
section
set_option Elab.async false
set_option linter.all false
set_option maxRecDepth 100000
namespace DL
open PySem PySem.Spec PyProof.Rows L2
/-! ### errors that are kept as values -/
/-- C(e, ..), the error kept -/
def tMkE (C : Addr) (sp : Sp) (t : TA) : TE := fun σ H Q => t σ H fun ws Ha => ws.length ≤ 1000 ∧ ∀ a, Ha a = none → sp (.ref a :: ws) (upd Ha a (exo a C none)) (fun r Hb => r = .non ∧ Q (.ref a) Hb) fun _ _ _ => False
section
variable {X : Cx} {e : Expr} {es : List Expr} {ta : TA} {x : Str} {p pos : Pos}
theorem pe_mkE {CX : CXT} {C fI : Addr} {k : Nat} {fd : FuncData} {ps : List Str} {sp : Sp} (T : OexC X.K C) (iC : PySem.W.findIn X.K (.ref C) "__init__" = some (some (.ref fI))) (tI : PySem.W.typeIn X.K (.ref fI) = some (.type "function"))
    (Fk : FnOk X.prog X.w X.K X.mg X.base CX k fI fd ps sp) (room : Room (k + 1) X.A) (bi : Binds X.K fd ps []) (px : Passes CX X (fun _ _ _ => False)) (gl : Gl X x) (mx : X.mg x = some (.ref C)) (args : PA X (e :: es) ta)
    (db : (x == ("__debug__" : Str)) = false := by decide) (se : starEach (e :: es) X.env = (false, eval e X.env) :: starEach es X.env := by rfl) (sp0 : (backTo pos (starEach es X.env)).any (·.1) = false := by rfl) :
    PE X (.Call (.Name x p) (e :: es) [] pos) (tMkE C sp ta) := by
  constructor
  intro pins s σ H Q J0 hyp
  obtain ⟨nm, q, N, bs, bm, sn, sub, ab, col, dd, k0, k1, k2, k3, k5, look, refs⟩ := T.cls
  apply wpAny_Call_Name_kw (ld_glob J0 gl mx _ db)
  refine PySem.W.callWith_K (h₀ := X.base) J0.ok.mod.kin T.kC (thn (args.run pos pins s σ H _ J0 hyp) ?_) se sp0
  rintro us ⟨hp, g, dr, tk, os⟩ ⟨ws, Ha, Ja, ra, le, ask⟩
  refine ⟨Ja.kIn, ?_⟩
  have szle : hp.objs.size ≤ hp.objs.size + 1 := Nat.le_succ _
  have todo := ask (hp.objs.size + 1) (Ja.hok.fresh szle)
  have Jb : Inv X pins σ (upd Ha (hp.objs.size + 1) (exo (hp.objs.size + 1) C none)) ⟨(hp.push (PySem.W.kdv_tup us)).push (PySem.HandSPX.excO C hp.objs.size), g, dr, tk, os⟩ := by
    refine Ja.laid (t' := tk) (h' := (hp.push (PySem.W.kdv_tup us)).push (PySem.HandSPX.excO C hp.objs.size)) (fun b o q => ?_) szle (exo_ok (t1 := hp.objs.size) (by heap_get))
    exact Heap.get?_push_of_some _ (Heap.get?_push_of_some _ q)
  have rb : Vals (V.ref (hp.objs.size + 1) :: ws) (Value.ref (hp.objs.size + 1) :: us) := .cons rfl ra
  have len : (Value.ref (hp.objs.size + 1) :: us ++ []).length = ps.length := by
    rw [List.append_nil, ← rb.length]; exact Fk.len _ _ _ _ todo
  have few : us.length ≤ sizeLine := by
    rw [← Paired.length ra, sizeLine_eq]; omega
  have bound := bi _ (Value.ref (hp.objs.size + 1) :: us) Jb.kIn len
  rw [List.append_nil] at bound
  refine wpAny_call (PySem.HandSPX.call_own F.excBase_ValueError (fun Y => PySem.HandSPX.refsVE_contains Y bm refs) (Ja.kIn _ _ look) (PySem.W.looks_findIn Ja.kIn iC) (fun self => PySem.W.bind_fn Ja.kIn self tI) few
    (codeAny_mono (Fk.run _ X.stack _ _ ⟨Value.ref (hp.objs.size + 1) :: us, []⟩ (Value.ref (hp.objs.size + 1) :: us) _ _ (fun _ _ _ => False) (room.make C us []) (Jb.env0.make C us []) bound rb todo) ?_))
  rintro (er | fl) s' out
  · exact px pins σ _ _ er s' Jb out
  · cases fl with
    | ret u =>
      obtain ⟨v, Hb, J3, rv, ev, fin⟩ := Jb.after out
      subst ev
      exact ⟨rv, V.ref (hp.objs.size + 1), Hb, J3, rfl, fin⟩
    | next => exact out.elim
    | brk => exact out.elim
    | cont => exact out.elim
/-- what is asked of the class of an error whose fields are read -/
def tFldE (K : PySem.W.Frag) (f : Str) (te : TE) : TE := fun σ H Q => te σ H fun x Ha => ∃ (a C dx : Addr) (fs : List (Str × V)) (v : V), x = .ref a ∧ Ha a = some (exo a C (some dx)) ∧ Ha dx = some (exd dx fs) ∧ XfC K C ∧ PySem.W.findIn K (.ref C) f = some none ∧ fs.lookup f = some v ∧ Q v Ha
theorem errAt {P : Program} {w : World} {H : Hp} {h : Heap} {a C dx : Addr} {fs : List (Str × V)} (hk : HOk P w H h) (ha : H a = some (exo a C (some dx))) (hd : H dx = some (exd dx fs)) :
    ∃ (ox od : Obj) (mA : Str → Option Value), PySem.W.InstAt h a ox C (some od) ∧ (∀ f, PySem.W.lookIn f od = some (mA f)) ∧ ∀ f, RelO (fs.lookup f) (mA f) := by
  obtain ⟨t1, at1⟩ := exo_at hk ha
  obtain ⟨mA, ns, rel⟩ := exd_at hk hd
  obtain ⟨od, at2, look⟩ := lookIn_ns ns
  exact ⟨_, od, mA, ⟨at1, rfl, rfl, at2⟩, look, rel⟩
theorem pe_fldE {f : Str} {te : TE} (he : PE X e te) (hb : attributeBase e f X.env (eval e X.env) = eval e X.env := by rfl) : PE X (.Attribute e f pos) (tFldE X.K f te) := by
  constructor
  intro pins s σ H Q J0 hyp
  apply attr_of hb
  refine thn (he.run pins s σ H _ J0 hyp) ?_
  rintro u s1 ⟨x, Ha, Ja, rx, a, C, dx, fs, v, ex, h1, h2, T, no, l, q⟩
  subst ex
  obtain rfl : u = Value.ref a := rx
  obtain ⟨ox, od, mA, at1, look, rel⟩ := errAt Ja.hok h1 h2
  obtain ⟨u, hu, ru⟩ := RelO.some_of (v := v) (o := mA f) (by rw [← l]; exact rel f)
  exact HandSPX.exc_get Ja.kIn at1 T.ga T.gg T.exC (PySem.W.findObj_own T.hdC no rfl (by rw [look, hu])) (handed_of ru) ⟨v, Ha, Ja.tok _, ru, q⟩
/-- what is asked of the class of an error whose class is asked -/
structure EcC (K : PySem.W.Frag) (C : Addr) : Prop where
  xf : XfC K C
  cl : (PySem.W.clsIn K C).isSome = true
  ac : PySem.W.findIn K (.ref C) "__class__" = some (some (.builtin "object.__class__"))
  ob : PySem.W.mroIn K C (.type "object") = some true
  sg : PySem.W.specialIn K (.builtin "object.__class__") "__get__" = some (some (.builtin "getset_descriptor.__get__"))
  tk : PySem.W.takesIn K (.builtin "object.__class__") = some true
def rIsiE (K : PySem.W.Frag) : List V → Hp → VK → Prop := fun xs H Q => ∃ (a C dx : Addr) (fs : List (Str × V)) (c : V) (u : Value) (b : Bool), xs = [.ref a, c] ∧ ClsV c u ∧ H a = some (exo a C (some dx)) ∧ H dx = some (exd dx fs) ∧ EcC K C ∧ PySem.W.kitOne K (.ref C) u = some b ∧ Q (.bl b) H
theorem call_isiE : CallR X (.builtin "isinstance") (rIsiE X.K) := by
  rintro pins s σ H xs us Q J0 r ⟨a, C, dx, fs, c, u, b, rfl, kc, h1, h2, T, ans, q⟩
  obtain ⟨u1, u2, rfl, r1, r2⟩ := vals2 r
  have := kc.eq r2
  subst this
  obtain rfl : u1 = Value.ref a := r1
  obtain ⟨ox, od, mA, at1, look, rel⟩ := errAt J0.hok h1 h2
  refine PySem.W.kia_one (PySem.W.kitx_exc T.cl T.xf.ga T.xf.gg T.xf.exC T.ac T.sg T.tk T.ob) J0.kIn at1 ans nofun fun tk => ?_
  exact ⟨.bl b, H, J0.tok tk, rfl, q⟩
end
/-! ### their __init__ -/
/-- self.f = .., self.g = .. -/
def spX2 (K : PySem.W.Frag) (f g : Str) : Sp := fun vs H Q _ => ∃ (a C : Addr) (v w : V), vs = [.ref a, v, w] ∧ OexC K C ∧ PySem.W.findIn K (.ref C) f = some none ∧ PySem.W.findIn K (.ref C) g = some none ∧ H a = some (exo a C none) ∧
  ∀ dx, H dx = none → dx ≠ a → Q .non (upd (upd H dx (exd dx [(g, w), (f, v)])) a (exo a C (some dx)))
theorem init2_ok {P : Program} {w : World} {K : PySem.W.Frag} {mg : Str → Option Value} {base : Heap} {x qual f g : Str} {st : Stmt} {fI : Addr} {fd : FuncData} {p1 p2 p3 p4 p5 p6 p7 p8 : Pos} {k : Nat} (F : Fun K x qual st fI fd) (S : FnScope ["self", f, g] ["self", f, g] (defScope st))
    (hb : defBody st = [.Assign [.Attribute (.Name "self" p1) f p2] (.Name f p3) p4, .Assign [.Attribute (.Name "self" p5) g p6] (.Name g p7) p8]) (hl : (defScope st).names.lookup f = some .local) (hl' : (defScope st).names.lookup g = some .local) (hs : (defScope st).names.lookup ("self" : Str) = some .local)
    (hd : (f == ("__debug__" : Str)) = false) (hcd : (f == ("__classdict__" : Str)) = false) (hd' : (g == ("__debug__" : Str)) = false) (hcd' : (g == ("__classdict__" : Str)) = false) :
    FnOk P w K mg base (L2.CX P w) (k + 1) fI fd ["self", f, g] (spX2 K f g) := by
  refine F.okX S (fun vs H Q E h => ?_) (fun cdv A outer s H vs Q E hr h => ?_)
  · obtain ⟨a, C, v, w, rfl, _⟩ := h; rfl
  · obtain ⟨a, C, v, w, rfl, T, n1, n2, ha, q⟩ := h
    rw [hb]
    refine ⟨_, pss_cons (ps_ost (pe_var (i := 0) rfl (.inl hs)) (pe_var (i := 1) rfl (.inl hl) hd hcd)) (pss_one (ps_ost (pe_var (i := 0) rfl (.inl hs)) (pe_var (i := 2) rfl (.inl hl') hd' hcd'))), ?_⟩
    refine ⟨v, rfl, .ref a, rfl, a, C, rfl, T, n1, .inl ⟨ha, fun dx h1 h2 => ?_⟩⟩
    refine ⟨w, rfl, .ref a, rfl, a, C, rfl, T, n2, .inr ⟨dx, [(f, v)], upd_same, by rw [upd_ne h2, upd_same], by show 1 ≤ 900; decide, ?_⟩⟩
    have eq : upd (upd (upd H dx (exd dx [(f, v)])) a (exo a C (some dx))) dx (exd dx [(g, w), (f, v)]) = upd (upd H dx (exd dx [(g, w), (f, v)])) a (exo a C (some dx)) := by
      funext b
      by_cases z : b = dx
      · rw [z, upd_same, upd_ne h2, upd_same]
      · rw [upd_ne z]
        by_cases z' : b = a
        · rw [z', upd_same, upd_same]
        · rw [upd_ne z', upd_ne z, upd_ne z', upd_ne z]
    rw [eq]
    exact q dx h1 h2
/-! ### over data -/
def clsOf (known : List Str) : D → Option Str
  | .dict ((.none, .str c) :: _) => if known.contains c then some c else none
  | _ => none
def efldOf (known : List Str) (f : Str) : D → Option D
  | .dict ((.none, .str c) :: kvs) => if known.contains c then (kvs.map fun p => ((match p.1 with | .str g => g | _ => Str.ofString ""), p.2)).lookup f else none
  | _ => none
def gFldE (known : List Str) (f : Str) (d : D) : Option Res := (efldOf known f d).map .d
def dMkE (c : Str) (fs : List Str) (A : Env → Out (List D)) : Env → Out Vl := fun ρ => (A ρ).bind fun ds ρ1 => if ds.length = fs.length then .ok (.sl (.dat (errD c (fs.zip ds).reverse))) ρ1 else .bad
def dIsiE (known : List Str) (sub : Str → Bool) (F : Env → Out Vl) : Env → Out Vl := fun ρ => (F ρ).bind fun x ρ1 => match (lookD x ρ1).bind (clsOf known) with
  | some c => .ok (dB (sub c)) ρ1
  | none => .bad
theorem efld_err {known : List Str} {c f : Str} {fs : List (Str × D)} : efldOf known f (errD c fs) = if known.contains c then fs.lookup f else none := by
  unfold efldOf errD
  simp only [List.map_map]
  congr 2
  induction fs with
  | nil => rfl
  | cons p fs ih => rw [List.map_cons, ih]; rfl
section
variable {K : PySem.W.Frag} {ct : CT} {I : Hp}
theorem RL.err {H : Hp} {v : V} {c : Str} {fs : List (Str × D)} (h : RL K ct I H v (errD c fs)) : ∃ c' ds a dx gs, errD c fs = errD c' ds ∧ v = .ref a ∧ I a = some (exo a (ct.cls c') (some dx)) ∧ I dx = some (exd dx gs) ∧ RFs K ct I gs ds := by
  rcases h with ⟨c', ds, a, dx, gs, q, _⟩ | ⟨ds, a, vs, q, _⟩ | ⟨c', ds, a, dx, gs, q, rfl, h1, h2, r⟩
  · exact absurd q (by simp [insD, errD])
  · exact absurd q (by simp [scrD, errD])
  · exact ⟨c', ds, a, dx, gs, q, rfl, h1, h2, r⟩
theorem efld_some {known : List Str} {f : Str} {d e : D} {H : Hp} {v : V} (h : RL K ct I H v d) (hf : efldOf known f d = some e) : ∃ c fs a dx gs, d = errD c fs ∧ c ∈ known ∧ fs.lookup f = some e ∧ v = .ref a ∧ I a = some (exo a (ct.cls c) (some dx)) ∧ I dx = some (exd dx gs) ∧ RFs K ct I gs fs := by
  cases d with
  | dict kvs =>
    rcases h with ⟨c', ds, a, dx, gs, q, _⟩ | ⟨ds, a, vs, q, _⟩ | ⟨c', ds, a, dx, gs, q, rfl, h1, h2, r⟩
    · rw [q] at hf; cases hf
    · rw [q] at hf; cases hf
    · rw [q, efld_err] at hf
      split at hf
      · rename_i hk
        exact ⟨c', ds, a, dx, gs, q, by simpa using hk, hf, rfl, h1, h2, r⟩
      · cases hf
  | none => cases hf
  | bool _ => cases hf
  | int _ => cases hf
  | str _ => cases hf
  | list _ => cases hf
  | tuple _ => cases hf
theorem cls_some {known : List Str} {d : D} {c : Str} {H : Hp} {v : V} (h : RL K ct I H v d) (hf : clsOf known d = some c) : ∃ fs a dx gs, d = errD c fs ∧ c ∈ known ∧ v = .ref a ∧ I a = some (exo a (ct.cls c) (some dx)) ∧ I dx = some (exd dx gs) ∧ RFs K ct I gs fs := by
  cases d with
  | dict kvs =>
    rcases h with ⟨c', ds, a, dx, gs, q, _⟩ | ⟨ds, a, vs, q, _⟩ | ⟨c', ds, a, dx, gs, q, rfl, h1, h2, r⟩
    · rw [q] at hf; cases hf
    · rw [q] at hf; cases hf
    · rw [q] at hf
      simp only [clsOf, errD] at hf
      split at hf
      · rename_i hk
        cases hf
        exact ⟨ds, a, dx, gs, q, by simpa using hk, rfl, h1, h2, r⟩
      · cases hf
  | none => cases hf
  | bool _ => cases hf
  | int _ => cases hf
  | str _ => cases hf
  | list _ => cases hf
  | tuple _ => cases hf
theorem RFs.zip : ∀ {fs : List Str} {vs : List V} {ds : List D}, RVs K ct I vs ds → RFs K ct I (fs.zip vs) (fs.zip ds)
  | [], _, _, _ => by simp only [List.zip_nil_left]; exact .nil
  | _ :: _, _, _, .nil => .nil
  | _ :: _, _, _, .cons h r => .cons h (RFs.zip r)
theorem RFs.append : ∀ {a b : List (Str × V)} {c d : List (Str × D)}, RFs K ct I a c → RFs K ct I b d → RFs K ct I (a ++ b) (c ++ d)
  | _, _, _, _, .nil, q => q
  | _, _, _, _, .cons h r, q => .cons h (RFs.append r q)
theorem RFs.rev : ∀ {a : List (Str × V)} {c : List (Str × D)}, RFs K ct I a c → RFs K ct I a.reverse c.reverse
  | _, _, .nil => .nil
  | _, _, .cons h r => by rw [List.reverse_cons, List.reverse_cons]; exact RFs.append (RFs.rev r) (.cons h .nil)
end
/-- what __init__ does to a new error -/
def Inits (K : PySem.W.Frag) (C : Addr) (fs : List Str) (sp : Sp) : Prop := ∀ (a : Addr) (ws : List V) (H : Hp) (Q : VK) (E : XK), ws.length = fs.length → H a = some (exo a C none) → (∀ dx, H dx = none → dx ≠ a → Q .non (upd (upd H dx (exd dx (fs.zip ws).reverse)) a (exo a C (some dx)))) → sp (.ref a :: ws) H Q E
theorem inits1 {K : PySem.W.Frag} {C : Addr} {f : Str} (T : OexC K C) (no : PySem.W.findIn K (.ref C) f = some none) : Inits K C [f] (spX1 K f) := by
  intro a ws H Q E hl ha q
  match ws, hl with
  | [v], _ => exact ⟨a, C, v, rfl, T, no, ha, q⟩
theorem inits2 {K : PySem.W.Frag} {C : Addr} {f g : Str} (T : OexC K C) (n1 : PySem.W.findIn K (.ref C) f = some none) (n2 : PySem.W.findIn K (.ref C) g = some none) : Inits K C [f, g] (spX2 K f g) := by
  intro a ws H Q E hl ha q
  match ws, hl with
  | [v, w], _ => exact ⟨a, C, v, w, rfl, T, n1, n2, ha, q⟩
section
variable {ct : CT} {X : Cx} {Wx : WX} {a b e : Expr} {es : List Expr} {F : Env → Out Vl} {A : Env → Out (List D)} {x : Str} {p p1 pos : Pos}
theorem de_fldE {known : List Str} {f : Str} (hk : ∀ c ∈ known, XfC X.K (ct.cls c) ∧ PySem.W.findIn X.K (.ref (ct.cls c)) f = some none) (he : DE ct X Wx e F) (hb : attributeBase e f X.env (eval e X.env) = eval e X.env := by rfl) : DE ct X Wx (.Attribute e f pos) (dUn (gFldE known f) F) :=
  pe_imp (pe_fldE he hb) fun σ H Q h => un_rd (r := fun x Ha Q => ∃ (a C dx : Addr) (fs : List (Str × V)) (v : V), x = .ref a ∧ Ha a = some (exo a C (some dx)) ∧ Ha dx = some (exd dx fs) ∧ XfC X.K C ∧ PySem.W.findIn X.K (.ref C) f = some none ∧ fs.lookup f = some v ∧ Q v Ha) (fun I H x d res Q hs hx hg q => by
    obtain ⟨z, hz, rfl⟩ := Option.map_eq_some_iff.mp hg
    obtain ⟨c, fs, a, dx, gs, rfl, hm, hl, rfl, h1, h2, r⟩ := efld_some hx hz
    obtain ⟨v, hv, rv⟩ := r.lookup hl
    exact ⟨a, _, dx, gs, v, rfl, hs _ _ h1, hs _ _ h2, (hk c hm).1, (hk c hm).2, hv, q v rv⟩) σ H Q h
/-- isinstance(e, x), e an error -/
theorem de_isiE {known : List Str} {sub : Str → Bool} {v : V} {u : Value} (hk : ∀ c ∈ known, EcC X.K (ct.cls c)) (hs : ∀ c ∈ known, PySem.W.kitOne X.K (.ref (ct.cls c)) u = some (sub c)) (kc : ClsV v u) (hx : PE X (.Name x p1) (tC v)) (hg : Gl X "isinstance") (hm : X.mg "isinstance" = none) (he : DE ct X Wx e F)
    (h1 : starEach (e :: [.Name x p1]) X.env = (false, eval e X.env) :: starEach [.Name x p1] X.env := by rfl) (h2 : starEach (.Name x p1 :: []) X.env = (false, eval (.Name x p1) X.env) :: starEach [] X.env := by rfl) (hpl : (backTo pos (starEach [.Name x p1] X.env)).any (·.1) = false := by rfl) :
    DE ct X Wx (.Call (.Name "isinstance" p) [e, .Name x p1] [] pos) (dIsiE known sub F) :=
  pe_imp (pe_callB call_isiE hg hm (by decide +kernel) (pa_cons he (pa_cons hx pa_nil h2) h1) (by decide) (by decide) h1 hpl) fun σ H Q h => by
    obtain ⟨W, ρ, rfl, R, h⟩ := h
    refine ⟨W, ρ, rfl, R, EPost.bind h fun vl ρ1 z W1 s1 R1 r1 h1 => ?_⟩
    cases el : lookD vl ρ1 with
    | none => simp only [el, Option.bind_none] at h1; exact h1.elim
    | some d =>
      cases ec : clsOf known d with
      | none => simp only [el, Option.bind_some, ec] at h1; exact h1.elim
      | some c =>
        simp only [el, Option.bind_some, ec] at h1
        obtain ⟨fs, a, dx, gs, rfl, hm, rfl, h2, h3, r⟩ := cls_some (r1.rl R1 el) ec
        exact ⟨a, ct.cls c, dx, gs, v, u, sub c, rfl, kc, R1.same _ _ h2, R1.same _ _ h3, hk c hm, hs c hm, h1 _ W1 s1 R1 (.dat (.bl _))⟩
/-- c(e, ..), the error kept -/
theorem de_mkE {c : Str} {fs : List Str} {fI : Addr} {k : Nat} {fd : FuncData} {ps : List Str} {sp : Sp} (T : OexC X.K (ct.cls c)) (iC : PySem.W.findIn X.K (.ref (ct.cls c)) "__init__" = some (some (.ref fI))) (tI : PySem.W.typeIn X.K (.ref fI) = some (.type "function"))
    (Fk : FnOk X.prog X.w X.K X.mg X.base (L2.CX X.prog X.w) k fI fd ps sp) (hi : Inits X.K (ct.cls c) fs sp) (room : Room (k + 1) X.A) (bi : Binds X.K fd ps []) (gl : Gl X x) (mx : X.mg x = some (.ref (ct.cls c))) (args : DA ct X Wx (e :: es) A) (few : fs.length ≤ 1000 := by decide)
    (db : (x == ("__debug__" : Str)) = false := by decide) (se : starEach (e :: es) X.env = (false, eval e X.env) :: starEach es X.env := by rfl) (sp0 : (backTo pos (starEach es X.env)).any (·.1) = false := by rfl) :
    DE ct X Wx (.Call (.Name x p) (e :: es) [] pos) (dMkE c fs A) :=
  pe_imp (pe_mkE T iC tI Fk room bi passL gl mx args db se sp0) fun σ H Q h => by
    obtain ⟨W, ρ, rfl, R, h⟩ := h
    refine ⟨W, ρ, rfl, R, APost.bindE h fun ds ρ1 vs W1 s1 R1 r1 h1 => ?_⟩
    split at h1
    · rename_i hl
      have hv : vs.length = fs.length := r1.length.trans hl
      refine ⟨by omega, fun a ha => hi a vs _ _ _ hv upd_same fun dx hdx hne => ⟨rfl, ?_⟩⟩
      rw [upd_ne hne] at hdx
      obtain ⟨s2, R2⟩ := R1.layI hdx (exd dx (fs.zip vs).reverse)
      have ha' : upd W1.H dx (exd dx (fs.zip vs).reverse) a = none := by rw [upd_ne (Ne.symm hne)]; exact ha
      obtain ⟨s3, R3⟩ := R2.layI ha' (exo a (ct.cls c) (some dx))
      have eq : upd (upd (upd W1.H a (exo a (ct.cls c) none)) dx (exd dx (fs.zip vs).reverse)) a (exo a (ct.cls c) (some dx)) = upd (upd W1.H dx (exd dx (fs.zip vs).reverse)) a (exo a (ct.cls c) (some dx)) := by
        funext b
        by_cases z : b = a
        · rw [z, upd_same, upd_same]
        · rw [upd_ne z, upd_ne z]
          by_cases z' : b = dx
          · rw [z', upd_same, upd_same]
          · rw [upd_ne z', upd_ne z, upd_ne z']
      rw [eq]
      exact h1 _ _ (s1.trans (s2.trans s3)) R3 (.dat (.err (dx := dx) upd_same (by show upd (upd W1.I dx _) a _ dx = _; rw [upd_ne hne, upd_same]) (RFs.rev (RFs.zip (r1.mono (s2.same.trans s3.same))))))
    · exact h1.elim
end
end DL
end
section
set_option Elab.async false
set_option linter.all false
set_option maxRecDepth 100000
namespace DL
open PySem PySem.Spec PyProof.Rows L2
/-! ### what the top leaves, told by a hook: defs, facts, one's own Bool -/
abbrev FV : Type := (Bool × List He.FnW) × Bool
def obF (n : Nat) (fa : List He.Fa) (fn : List He.DefD) (ex : PySem.W.Frag → Bool) (g : Addr → Option Obj) : FV :=
  (He.obsD fa fn (He.frG g (He.asD g n)), ex (He.frG g (He.asD g n)))
structure SaysF (fa : List He.Fa) (fn : List He.DefD) (ex : PySem.W.Frag → Bool) (K : PySem.W.Frag) : Prop where
  d : He.SaysD fa fn K
  e : ex K = true
def hookF (n : Nat) (fa : List He.Fa) (fn : List He.DefD) (ex : PySem.W.Frag → Bool) : PySem.W.Hook where
  α := FV
  obs := fun s => obF n fa fn ex s.heap.get?
  val := fun _ => (He.valD fn, true)
  says := fun _ h => ∃ K : PySem.W.Frag, K.In h ∧ SaysF fa fn ex K
  of := fun _ _ e => ⟨_, He.frG_in, ⟨(Prod.mk.inj e).1, (Prod.mk.inj e).2⟩⟩
  keeps := fun _ _ _ ⟨K, hK, c⟩ k => ⟨K, PySem.W.Frag.In.keeps hK k, c⟩
theorem obF_eq {n : Nat} {fa : List He.Fa} {fn : List He.DefD} {ex : PySem.W.Frag → Bool} {g : Addr → Option Obj} {s : Shared} (h : ∀ a, g a = s.heap.get? a) : obF n fa fn ex g = (hookF n fa fn ex).obs s := by
  have : g = s.heap.get? := funext h
  rw [this]; rfl
/-- a def without defaults, from its datum -/
def dd (x qual : Str) (c : Str × Option Str) (st : Stmt) : He.DefD := ⟨c, x, qual, defArgs st, defBody st, defScope st, [], []⟩
theorem fun_of {K : PySem.W.Frag} {x qual : Str} {c : Str × Option Str} {st : Stmt} {fa : List He.Fa} {fn : List He.DefD} {ex : PySem.W.Frag → Bool} (S : SaysF fa fn ex K) (i : Nat) (h : fn[i]? = some (dd x qual c st)) : ∃ fd, Fun K x qual st (He.fAd K c) fd ∧ FunD K x qual (defArgs st) (defBody st) (defScope st) [] [] (He.fAd K c) fd := by
  obtain ⟨fd, F⟩ := S.d.def_ i h
  refine ⟨fd, ?_, F⟩
  obtain ⟨oc, od, dV, kV, doc, pm, an, cdv, ct, osl, e, lk, hc, hD, _⟩ := F.ex
  rcases hD with ⟨_, q⟩ | ⟨q, _⟩
  · subst q; exact ⟨⟨oc, od, kV, doc, pm, an, cdv, ct, osl, e, lk, hc⟩, F.kp⟩
  · exact absurd rfl q
/-! ### classes of errors -/
def oexB (K : PySem.W.Frag) (C : Addr) : Bool := match K.lookup C with
  | some ⟨.type "type", _, .cls cd, sl⟩ => (match cd.mro, sl.toList with
    | .ref C' :: bm, [_, _, _, _, some (.builtin n), _] => C' == C && (n == "ValueError.__new__" && (cd.hasDict && (!cd.hasDel && PySem.HandSPX.refsVE bm)))
    | _, _ => false)
  | _ => false
theorem oexB_ok {K : PySem.W.Frag} {C : Addr} (h : oexB K C = true) : ∃ nm q N bs bm sn sub ab col dd k0 k1 k2 k3 k5, K.lookup C = some (excClassObj nm q C N bs bm true sn sub ab col dd k0 k1 k2 k3 k5 "ValueError.__new__") ∧ PySem.HandSPX.refsVE bm = true := by
  unfold oexB at h
  split at h
  · rename_i dx cd sl look
    split at h
    · rename_i C' bm a0 a1 a2 a3 n a5 em es
      simp only [Bool.and_eq_true, beq_iff_eq, Bool.not_eq_true'] at h
      obtain ⟨rfl, rfl, hd, hl, hr⟩ := h
      cases cd with
      | mk nm bs mro ns qn hdict sn sub ab col del =>
        dsimp only at em hd hl
        subst em hd hl
        obtain ⟨l⟩ := sl
        dsimp only at es
        subst es
        exact ⟨nm, qn, ns, bs, bm, sn, sub, ab, col, dx, a0, a1, a2, a3, a5, look, hr⟩
    · cases h
  · cases h
/-- an own error class: its fields fs, an __init__ of its own -/
def errB (K : PySem.W.Frag) (x : Str) (fs : List Str) : Bool :=
  oexB K (He.ga K x) && (decide (PySem.W.findIn K (.ref (He.ga K x)) "__setattr__" = some (some (.builtin "object.__setattr__"))) && (decide (PySem.W.subIn K (.ref (He.ga K x)) (.type "BaseException") = some true) &&
  (decide (PySem.W.typeIn K (.ref (He.ga K x)) = some (.type "type")) && (PySem.W.keepIn K (.ref (He.ga K x)) && (xfB K (He.ga K x) && ((PySem.W.clsIn K (He.ga K x)).isSome &&
  (decide (PySem.W.findIn K (.ref (He.ga K x)) "__class__" = some (some (.builtin "object.__class__"))) && (decide (PySem.W.mroIn K (He.ga K x) (.type "object") = some true) && (decide (PySem.W.specialIn K (.builtin "object.__class__") "__get__" = some (some (.builtin "getset_descriptor.__get__"))) &&
  (decide (PySem.W.takesIn K (.builtin "object.__class__") = some true) && (decide (PySem.W.findIn K (.ref (He.ga K x)) "__init__" = some (some (.ref (He.fAd K (x, some "__init__"))))) && (decide (PySem.W.typeIn K (.ref (He.fAd K (x, some "__init__"))) = some (.type "function")) &&
  fs.all fun f => decide (PySem.W.findIn K (.ref (He.ga K x)) f = some none)))))))))))))
structure ErrC (K : PySem.W.Frag) (x : Str) (fs : List Str) : Prop where
  o : OexC K (He.ga K x)
  e : EcC K (He.ga K x)
  i : PySem.W.findIn K (.ref (He.ga K x)) "__init__" = some (some (.ref (He.fAd K (x, some "__init__"))))
  t : PySem.W.typeIn K (.ref (He.fAd K (x, some "__init__"))) = some (.type "function")
  n : ∀ f ∈ fs, PySem.W.findIn K (.ref (He.ga K x)) f = some none
theorem errB_ok {K : PySem.W.Frag} {x : Str} {fs : List Str} (h : errB K x fs = true) : ErrC K x fs := by
  unfold errB at h
  simp only [Bool.and_eq_true, decide_eq_true_eq] at h
  obtain ⟨h1, h2, h3, h4, h5, h6, h7, h8, h9, h10, h11, h12, h13, h14⟩ := h
  exact ⟨⟨oexB_ok h1, h2, h3, h4, h5⟩, ⟨xfB_ok h6, h7, h8, h9, h10, h11⟩, h12, h13, fun f m => of_decide_eq_true (List.all_eq_true.mp h14 f m)⟩
end DL
end
section
set_option Elab.async false
set_option linter.all false
set_option maxRecDepth 100000
namespace DL
open PySem PySem.Spec PyProof.Rows L2
/-! ### for generated derivations -/
def blkB (N : List Str) (sc scope : Scope) (own : List (Str × Nat)) : Bool :=
  decide (scope.kind = .function) && (scope.names.all (fun y => decide (scope.names.lookup y.1 = some y.2)) && (own.all (fun p => decide (N[p.2]? = some p.1)) &&
  (scope.names.all (fun y => !decide (y.2 = .free) || (decide (sc.names.lookup y.1 = some .cell) || decide (sc.names.lookup y.1 = some .free))) && scope.names.all fun y => !(decide (y.2 = .local) || decide (y.2 = .cell)) || ((own.map (·.1)).contains y.1 || !N.contains y.1))))
theorem blk_of {N : List Str} {sc scope : Scope} {own : List (Str × Nat)} (h : blkB N sc scope own = true) : BlkOk N sc scope own := by
  unfold blkB at h
  simp only [Bool.and_eq_true, decide_eq_true_eq, List.all_eq_true, Bool.or_eq_true, Bool.not_eq_true', decide_eq_false_iff_not, List.contains_iff_mem, Bool.or_eq_false_iff] at h
  obtain ⟨h1, h2, h3, h4, h5⟩ := h
  refine ⟨h1, h2, h3, fun y m q => (h4 y m).resolve_left fun z => z q, fun y m q => ?_⟩
  rcases h5 y m with z | z | z
  · exact (q.elim z.1 z.2).elim
  · exact .inl z
  · exact .inr fun m' => by rw [List.contains_iff_mem.mpr m'] at z; cases z
section
variable {ct : CT} {X : Cx} {scope : Scope} {i n : Nat} {x : Str} {pos : Pos}
/-- a comprehension's name -/
theorem cg_name (hN : X.N.Nodup) (hi : X.N[i]? = some x) (hx : scope.names.lookup x = some .local) : ∃ g : TG, (∀ (s : Shared) (H : Hp) (C : Addr) (cl : List (Str × Addr)) (fp : List Addr), PG (X.blk s H scope (compEnvC scope cl C X.env) fp) (.Name x pos) g) ∧
    ∀ (W : Wd) (σ : L2.St) (ρ ρ' : Env) (v : V) (d : D) (Q : L2.St → Hp → Prop), Rep X.K ct W σ ρ → RV X.K ct W.I v d → gSet n i d ρ = some ρ' →
      (∀ σ' w', Wst W ⟨W.I, W.H, w'⟩ → Rep X.K ct ⟨W.I, W.H, w'⟩ σ' ρ' → Fix n σ σ' → OnlyAt [i] σ σ' → Q σ' W.H) → g v σ W.H Q :=
  ⟨_, fun s H C cl fp => pg_name (X := X.blk s H scope (compEnvC scope cl C X.env) fp) hN hi (.inl (lookup_relabel_local hx)) (.inr (lookup_relabel_local hx)), fun W σ ρ ρ' v d Q R r h q => by
    obtain ⟨w', s, R', f⟩ := gset_ok R r h
    exact q _ w' s R' f ⟨List.length_set, fun j hj => List.getElem?_set_ne (fun e => hj (by simp [e]))⟩⟩
end
theorem b_len : bootBuiltins "len" = some (.builtin "len") := by decide +kernel
theorem b_abs : bootBuiltins "abs" = some (.builtin "abs") := by decide +kernel
theorem b_int : bootBuiltins "int" = some (.type "int") := by decide +kernel
theorem b_str : bootBuiltins "str" = some (.type "str") := by decide +kernel
theorem b_VE : bootBuiltins "ValueError" = some (.type "ValueError") := by decide +kernel
end DL
end
section
set_option Elab.async false
set_option linter.all false
set_option maxRecDepth 100000
namespace DL
open PySem PySem.Spec PyProof.Rows L2
/-! ### a law's end: its def answers True over data -/
theorem rvs_ints {K : PySem.W.Frag} {ct : CT} {I : Hp} : ∀ ns : List Int, RVs K ct I (ns.map V.int) (ns.map PyData.int)
  | [] => .nil
  | _ :: ns => .cons (.int _) (rvs_ints ns)
theorem sp_end {K : PySem.W.Frag} {ct : CT} {F : Fn} {H : Hp} {a : Addr} {ns : List Int} (h : SqL K H a (ns.map V.int)) (hF : ∃ outs, F [.dat (scrD (ns.map .int))] = .ret (.dat (.bool true)) outs) : spF K ct 1 F [.ref a] H (fun v _ => v = .bl true) fun _ _ _ => False := by
  obtain ⟨outs, e⟩ := hF
  refine ⟨rfl, ⟨H, H, [[]]⟩, [.dat (scrD (ns.map .int))], rfl, ⟨.refl H, .cons ⟨.ref a, rfl, rfl, .scr h (rvs_ints ns)⟩ .nil, .nil⟩, ?_⟩
  rw [e]
  intro v W' s R r
  obtain ⟨_, as, q, _⟩ := r
  cases q.2
  rfl
theorem end_law {l : PySem.W.OpenLaw} {n k : Nat} {q : Program} {loose : List Str} {XP : (Str → Option Value) → Heap → Prop} {YP : World → Heap → Prop} {d : DefRec} {x : Str} (most : l.most = some n) (fits : n ≤ sizeLine) (plain : d.params.defaults = []) (room : Room k callerA)
    (F : ∀ (w : World) (mg : Str → Option Value) (f : Addr) (h : Heap), YP w h → h.Ns mainGlobals mg → mg d.name = some (.ref f) → ∃ (K : PySem.W.Frag) (ct : CT) (fd : FuncData) (F : Fn), K.In h ∧ (∀ (s : Shared) (u : Value), BindsTo s fd ⟨[u], []⟩ [(x, u)]) ∧
      (∀ ns : List Int, ∃ outs, F [.dat (scrD (ns.map .int))] = .ret (.dat (.bool true)) outs) ∧ ∀ base : Heap, K.In base → base.Ns mainGlobals mg → FnOk l.prog w K mg base (L2.CX l.prog w) k f fd [x] (spF K ct 1 F)) :
    PySem.W.WalkO q loose XP YP l.row.toRowW d [] (fun f vs => PySem.call f vs) := by
  apply Att.attach_call most plain
  intro w s₀ s₁ mg mb f o pm cd doc a vs ns G Y ho hd hcd hmg hobj hints hlen hg
  obtain ⟨K, ct, fd, Fn, KX, hb, hl, hF⟩ := F w mg f _ Y G.T.g hmg
  refine law_call KX G.T.g G.T.b G.T.builtins G.T.nolimit hg hobj hints (Nat.le_trans hlen fits) room hF hb (fun H _ hS => sp_end hS (hl ns)) ?_
  rintro H e s' ⟨_, _, _, _, _, _, _, _, _, _, _, _, z⟩
  exact z
end DL
end
section
set_option Elab.async false
set_option linter.all false
set_option maxRecDepth 100000
set_option maxHeartbeats 0
namespace K1
open PySem PySem.Spec PyProof.Rows L2 DL
def top (i : Nat) : Stmt := PySem.Challenge.pw_calmgroups_k01_errors.main.body.getD i (.Pass ⟨0, 0, 0, 0⟩)
def inC (st : Stmt) (j : Nat) : Stmt := match st with
  | .ClassDef _ _ _ b _ _ _ _ _ _ _ => b.getD j (.Pass ⟨0, 0, 0, 0⟩)
  | _ => .Pass ⟨0, 0, 0, 0⟩
def errs : List (Str × List Str) := [("InvalidNumber", ["value"]), ("InvalidGroups", ["value"]), ("InvalidGroup", ["value"]), ("InvalidRanks", ["value"]), ("InvalidValues", ["value"]), ("InvalidOrders", ["value"]), ("InvalidText", ["text", "at"]), ("InvalidLot", ["value"]), ("InvalidMembers", ["value"]), ("InvalidTree", ["value"]), ("InvalidKind", ["value"]), ("InvalidQuestion", ["value"]), ("InvalidClaim", ["value"]), ("Undefined", ["what"]), ("NothingToUndo", ["word"])]
def kinds : List Str := errs.map (·.1) ++ (["GroupError"] : List Str)
def known : List Str := errs.map (·.1)
def ex (K : PySem.W.Frag) : Bool := errs.all (fun p => errB K p.1 p.2) && (errs.all (fun p => kinds.all fun y => decide (PySem.W.kitOne K (.ref (He.ga K p.1)) (.ref (He.ga K y)) = some (decide (y = p.1 ∨ y = "GroupError")))) && errs.all (fun p => decide (PySem.W.kitOne K (.ref (He.ga K p.1)) (.type "ValueError") = some true)))
abbrev s_law_box : Stmt := top 18
abbrev s_law_take : Stmt := top 19
abbrev s_law_pick : Stmt := top 20
abbrev s_law_ones : Stmt := top 21
abbrev s_law_kinds : Stmt := top 22
abbrev s_law : Stmt := top 23
abbrev s_InvalidNumber : Stmt := inC (top 2) 0
abbrev s_InvalidGroups : Stmt := inC (top 3) 0
abbrev s_InvalidGroup : Stmt := inC (top 4) 0
abbrev s_InvalidRanks : Stmt := inC (top 5) 0
abbrev s_InvalidValues : Stmt := inC (top 6) 0
abbrev s_InvalidOrders : Stmt := inC (top 7) 0
abbrev s_InvalidText : Stmt := inC (top 8) 0
abbrev s_InvalidLot : Stmt := inC (top 9) 0
abbrev s_InvalidMembers : Stmt := inC (top 10) 0
abbrev s_InvalidTree : Stmt := inC (top 11) 0
abbrev s_InvalidKind : Stmt := inC (top 12) 0
abbrev s_InvalidQuestion : Stmt := inC (top 13) 0
abbrev s_InvalidClaim : Stmt := inC (top 14) 0
abbrev s_Undefined : Stmt := inC (top 15) 0
abbrev s_NothingToUndo : Stmt := inC (top 16) 0
def fn : List He.DefD := [dd "_law_box" "_law_box" ("_law_box", none) s_law_box, dd "_law_take" "_law_take" ("_law_take", none) s_law_take, dd "_law_pick" "_law_pick" ("_law_pick", none) s_law_pick, dd "_law_ones" "_law_ones" ("_law_ones", none) s_law_ones, dd "_law_kinds" "_law_kinds" ("_law_kinds", none) s_law_kinds, dd "law" "law" ("law", none) s_law, dd "__init__" "InvalidNumber.__init__" ("InvalidNumber", some "__init__") s_InvalidNumber, dd "__init__" "InvalidGroups.__init__" ("InvalidGroups", some "__init__") s_InvalidGroups, dd "__init__" "InvalidGroup.__init__" ("InvalidGroup", some "__init__") s_InvalidGroup, dd "__init__" "InvalidRanks.__init__" ("InvalidRanks", some "__init__") s_InvalidRanks, dd "__init__" "InvalidValues.__init__" ("InvalidValues", some "__init__") s_InvalidValues, dd "__init__" "InvalidOrders.__init__" ("InvalidOrders", some "__init__") s_InvalidOrders, dd "__init__" "InvalidText.__init__" ("InvalidText", some "__init__") s_InvalidText, dd "__init__" "InvalidLot.__init__" ("InvalidLot", some "__init__") s_InvalidLot, dd "__init__" "InvalidMembers.__init__" ("InvalidMembers", some "__init__") s_InvalidMembers, dd "__init__" "InvalidTree.__init__" ("InvalidTree", some "__init__") s_InvalidTree, dd "__init__" "InvalidKind.__init__" ("InvalidKind", some "__init__") s_InvalidKind, dd "__init__" "InvalidQuestion.__init__" ("InvalidQuestion", some "__init__") s_InvalidQuestion, dd "__init__" "InvalidClaim.__init__" ("InvalidClaim", some "__init__") s_InvalidClaim, dd "__init__" "Undefined.__init__" ("Undefined", some "__init__") s_Undefined, dd "__init__" "NothingToUndo.__init__" ("NothingToUndo", some "__init__") s_NothingToUndo]
def fa : List He.Fa := [.glo "_law_box", .glo "_law_take", .glo "_law_pick", .glo "_law_ones", .glo "_law_kinds", .glo "law", .glo "InvalidNumber", .glo "InvalidGroups", .glo "InvalidGroup", .glo "InvalidRanks", .glo "InvalidValues", .glo "InvalidOrders", .glo "InvalidText", .glo "InvalidLot", .glo "InvalidMembers", .glo "InvalidTree", .glo "InvalidKind", .glo "InvalidQuestion", .glo "InvalidClaim", .glo "Undefined", .glo "NothingToUndo", .glo "GroupError", .free "abs", .free "len", .free "int", .free "str", .free "isinstance", .free "range", .free "ValueError"]
abbrev R : PySem.W.OpenRow := PySem.W.OpenLaw.row PySem.Challenge.rw_calmgroups_k01_errors
abbrev hk : PySem.W.Hook := hookF 6 fa fn ex
def ob (s : PySem.W.SharedT) : FV := obF 6 fa fn ex (HandSHeadRun.getT s)
theorem ob_eq (s : PySem.W.SharedT) : ob s = hk.obs s.abs := obF_eq (HandSHeadRun.getT_eq s)
def names : List PySem.Str := ["GroupError", "InvalidNumber", "InvalidGroups", "InvalidGroup", "InvalidRanks", "InvalidValues", "InvalidOrders", "InvalidText", "InvalidLot", "InvalidMembers", "InvalidTree", "InvalidKind", "InvalidQuestion", "InvalidClaim", "Undefined", "NothingToUndo", "_law_box", "_law_take", "_law_pick", "_law_ones", "_law_kinds"]
theorem run (w : World) : HandSHeadRun.RunEq R (PySem.W.view R.prog [23]) hk ob 60000 names w := by
  intro os
  kernel_rfl
end K1
end
section
set_option Elab.async false
set_option linter.all false
set_option maxRecDepth 100000
namespace K1
open PySem PySem.Spec PyProof.Rows L2 DL
abbrev ct (K : PySem.W.Frag) : CT := ⟨fun c => He.ga K c, 0, none, .none⟩
def sb (y c : Str) : Bool := decide (y = c ∨ y = "GroupError")
/-- what the top has written -/
structure Tx (K : PySem.W.Frag) (mg : Str → Option Value) where
  d_law_box : FuncData
  F_law_box : Fun K "_law_box" "_law_box" s_law_box (He.fAd K ("_law_box", none)) d_law_box
  b_law_box : Binds K d_law_box ["script", "k"] []
  g_law_box : mg "_law_box" = some (.ref (He.fAd K ("_law_box", none)))
  d_law_take : FuncData
  F_law_take : Fun K "_law_take" "_law_take" s_law_take (He.fAd K ("_law_take", none)) d_law_take
  b_law_take : Binds K d_law_take ["box", "many"] []
  g_law_take : mg "_law_take" = some (.ref (He.fAd K ("_law_take", none)))
  d_law_pick : FuncData
  F_law_pick : Fun K "_law_pick" "_law_pick" s_law_pick (He.fAd K ("_law_pick", none)) d_law_pick
  b_law_pick : Binds K d_law_pick ["box", "some"] []
  g_law_pick : mg "_law_pick" = some (.ref (He.fAd K ("_law_pick", none)))
  d_law_ones : FuncData
  F_law_ones : Fun K "_law_ones" "_law_ones" s_law_ones (He.fAd K ("_law_ones", none)) d_law_ones
  b_law_ones : Binds K d_law_ones ["v"] []
  g_law_ones : mg "_law_ones" = some (.ref (He.fAd K ("_law_ones", none)))
  d_law_kinds : FuncData
  F_law_kinds : Fun K "_law_kinds" "_law_kinds" s_law_kinds (He.fAd K ("_law_kinds", none)) d_law_kinds
  b_law_kinds : Binds K d_law_kinds ["e"] []
  g_law_kinds : mg "_law_kinds" = some (.ref (He.fAd K ("_law_kinds", none)))
  d_law : FuncData
  F_law : Fun K "law" "law" s_law (He.fAd K ("law", none)) d_law
  b_law : Binds K d_law ["script"] []
  g_law : mg "law" = some (.ref (He.fAd K ("law", none)))
  d_InvalidNumber : FuncData
  F_InvalidNumber : Fun K "__init__" "InvalidNumber.__init__" s_InvalidNumber (He.fAd K ("InvalidNumber", some "__init__")) d_InvalidNumber
  bi_InvalidNumber : Binds K d_InvalidNumber ["self", "value"] []
  g_InvalidNumber : mg "InvalidNumber" = some (.ref (He.ga K "InvalidNumber"))
  e_InvalidNumber : ErrC K "InvalidNumber" ["value"]
  d_InvalidGroups : FuncData
  F_InvalidGroups : Fun K "__init__" "InvalidGroups.__init__" s_InvalidGroups (He.fAd K ("InvalidGroups", some "__init__")) d_InvalidGroups
  bi_InvalidGroups : Binds K d_InvalidGroups ["self", "value"] []
  g_InvalidGroups : mg "InvalidGroups" = some (.ref (He.ga K "InvalidGroups"))
  e_InvalidGroups : ErrC K "InvalidGroups" ["value"]
  d_InvalidGroup : FuncData
  F_InvalidGroup : Fun K "__init__" "InvalidGroup.__init__" s_InvalidGroup (He.fAd K ("InvalidGroup", some "__init__")) d_InvalidGroup
  bi_InvalidGroup : Binds K d_InvalidGroup ["self", "value"] []
  g_InvalidGroup : mg "InvalidGroup" = some (.ref (He.ga K "InvalidGroup"))
  e_InvalidGroup : ErrC K "InvalidGroup" ["value"]
  d_InvalidRanks : FuncData
  F_InvalidRanks : Fun K "__init__" "InvalidRanks.__init__" s_InvalidRanks (He.fAd K ("InvalidRanks", some "__init__")) d_InvalidRanks
  bi_InvalidRanks : Binds K d_InvalidRanks ["self", "value"] []
  g_InvalidRanks : mg "InvalidRanks" = some (.ref (He.ga K "InvalidRanks"))
  e_InvalidRanks : ErrC K "InvalidRanks" ["value"]
  d_InvalidValues : FuncData
  F_InvalidValues : Fun K "__init__" "InvalidValues.__init__" s_InvalidValues (He.fAd K ("InvalidValues", some "__init__")) d_InvalidValues
  bi_InvalidValues : Binds K d_InvalidValues ["self", "value"] []
  g_InvalidValues : mg "InvalidValues" = some (.ref (He.ga K "InvalidValues"))
  e_InvalidValues : ErrC K "InvalidValues" ["value"]
  d_InvalidOrders : FuncData
  F_InvalidOrders : Fun K "__init__" "InvalidOrders.__init__" s_InvalidOrders (He.fAd K ("InvalidOrders", some "__init__")) d_InvalidOrders
  bi_InvalidOrders : Binds K d_InvalidOrders ["self", "value"] []
  g_InvalidOrders : mg "InvalidOrders" = some (.ref (He.ga K "InvalidOrders"))
  e_InvalidOrders : ErrC K "InvalidOrders" ["value"]
  d_InvalidText : FuncData
  F_InvalidText : Fun K "__init__" "InvalidText.__init__" s_InvalidText (He.fAd K ("InvalidText", some "__init__")) d_InvalidText
  bi_InvalidText : Binds K d_InvalidText ["self", "text", "at"] []
  g_InvalidText : mg "InvalidText" = some (.ref (He.ga K "InvalidText"))
  e_InvalidText : ErrC K "InvalidText" ["text", "at"]
  d_InvalidLot : FuncData
  F_InvalidLot : Fun K "__init__" "InvalidLot.__init__" s_InvalidLot (He.fAd K ("InvalidLot", some "__init__")) d_InvalidLot
  bi_InvalidLot : Binds K d_InvalidLot ["self", "value"] []
  g_InvalidLot : mg "InvalidLot" = some (.ref (He.ga K "InvalidLot"))
  e_InvalidLot : ErrC K "InvalidLot" ["value"]
  d_InvalidMembers : FuncData
  F_InvalidMembers : Fun K "__init__" "InvalidMembers.__init__" s_InvalidMembers (He.fAd K ("InvalidMembers", some "__init__")) d_InvalidMembers
  bi_InvalidMembers : Binds K d_InvalidMembers ["self", "value"] []
  g_InvalidMembers : mg "InvalidMembers" = some (.ref (He.ga K "InvalidMembers"))
  e_InvalidMembers : ErrC K "InvalidMembers" ["value"]
  d_InvalidTree : FuncData
  F_InvalidTree : Fun K "__init__" "InvalidTree.__init__" s_InvalidTree (He.fAd K ("InvalidTree", some "__init__")) d_InvalidTree
  bi_InvalidTree : Binds K d_InvalidTree ["self", "value"] []
  g_InvalidTree : mg "InvalidTree" = some (.ref (He.ga K "InvalidTree"))
  e_InvalidTree : ErrC K "InvalidTree" ["value"]
  d_InvalidKind : FuncData
  F_InvalidKind : Fun K "__init__" "InvalidKind.__init__" s_InvalidKind (He.fAd K ("InvalidKind", some "__init__")) d_InvalidKind
  bi_InvalidKind : Binds K d_InvalidKind ["self", "value"] []
  g_InvalidKind : mg "InvalidKind" = some (.ref (He.ga K "InvalidKind"))
  e_InvalidKind : ErrC K "InvalidKind" ["value"]
  d_InvalidQuestion : FuncData
  F_InvalidQuestion : Fun K "__init__" "InvalidQuestion.__init__" s_InvalidQuestion (He.fAd K ("InvalidQuestion", some "__init__")) d_InvalidQuestion
  bi_InvalidQuestion : Binds K d_InvalidQuestion ["self", "value"] []
  g_InvalidQuestion : mg "InvalidQuestion" = some (.ref (He.ga K "InvalidQuestion"))
  e_InvalidQuestion : ErrC K "InvalidQuestion" ["value"]
  d_InvalidClaim : FuncData
  F_InvalidClaim : Fun K "__init__" "InvalidClaim.__init__" s_InvalidClaim (He.fAd K ("InvalidClaim", some "__init__")) d_InvalidClaim
  bi_InvalidClaim : Binds K d_InvalidClaim ["self", "value"] []
  g_InvalidClaim : mg "InvalidClaim" = some (.ref (He.ga K "InvalidClaim"))
  e_InvalidClaim : ErrC K "InvalidClaim" ["value"]
  d_Undefined : FuncData
  F_Undefined : Fun K "__init__" "Undefined.__init__" s_Undefined (He.fAd K ("Undefined", some "__init__")) d_Undefined
  bi_Undefined : Binds K d_Undefined ["self", "what"] []
  g_Undefined : mg "Undefined" = some (.ref (He.ga K "Undefined"))
  e_Undefined : ErrC K "Undefined" ["what"]
  d_NothingToUndo : FuncData
  F_NothingToUndo : Fun K "__init__" "NothingToUndo.__init__" s_NothingToUndo (He.fAd K ("NothingToUndo", some "__init__")) d_NothingToUndo
  bi_NothingToUndo : Binds K d_NothingToUndo ["self", "word"] []
  g_NothingToUndo : mg "NothingToUndo" = some (.ref (He.ga K "NothingToUndo"))
  e_NothingToUndo : ErrC K "NothingToUndo" ["word"]
  g_GroupError : mg "GroupError" = some (.ref (He.ga K "GroupError"))
  n_abs : mg "abs" = none
  n_len : mg "len" = none
  n_int : mg "int" = none
  n_str : mg "str" = none
  n_isinstance : mg "isinstance" = none
  n_range : mg "range" = none
  n_ValueError : mg "ValueError" = none
  all : ex K = true
section
variable {P : Program} {w : World} {K : PySem.W.Frag} {mg : Str → Option Value} {base : Heap}
theorem Tx.err (T : Tx K mg) {p : Str × List Str} (h : p ∈ errs) : ErrC K p.1 p.2 := errB_ok (List.all_eq_true.mp (Bool.and_eq_true_iff.mp T.all).1 p h)
theorem Tx.of (T : Tx K mg) {c : Str} (h : c ∈ known) : ∃ fs, (c, fs) ∈ errs := by
  obtain ⟨p, hp, rfl⟩ := List.mem_map.mp h
  exact ⟨p.2, hp⟩
theorem Tx.ecc (T : Tx K mg) : ∀ c ∈ known, EcC K ((ct K).cls c) := fun c h => by
  obtain ⟨fs, hp⟩ := T.of h
  exact (T.err hp).e
theorem Tx.kit (T : Tx K mg) {y : Str} (hy : y ∈ kinds) : ∀ c ∈ known, PySem.W.kitOne K (.ref ((ct K).cls c)) (.ref (He.ga K y)) = some (sb y c) := fun c h => by
  obtain ⟨fs, hp⟩ := T.of h
  exact of_decide_eq_true (List.all_eq_true.mp (List.all_eq_true.mp (Bool.and_eq_true_iff.mp (Bool.and_eq_true_iff.mp T.all).2).1 _ hp) y hy)
theorem Tx.kitV (T : Tx K mg) : ∀ c ∈ known, PySem.W.kitOne K (.ref ((ct K).cls c)) (.type "ValueError") = some true := fun c h => by
  obtain ⟨fs, hp⟩ := T.of h
  exact of_decide_eq_true (List.all_eq_true.mp (Bool.and_eq_true_iff.mp (Bool.and_eq_true_iff.mp T.all).2).2 _ hp)
theorem Tx.fld (T : Tx K mg) {f : Str} {l : List Str} (h : ∀ c ∈ l, ∃ fs, (c, fs) ∈ errs ∧ f ∈ fs) : ∀ c ∈ l, XfC K ((ct K).cls c) ∧ PySem.W.findIn K (.ref ((ct K).cls c)) f = some none := fun c hc => by
  obtain ⟨fs, h1, h2⟩ := h c hc
  exact ⟨(T.err h1).e.xf, (T.err h1).n f h2⟩
theorem Tx.fldE_value (T : Tx K mg) : ∀ c ∈ (["InvalidNumber", "InvalidGroups", "InvalidGroup", "InvalidRanks", "InvalidValues", "InvalidOrders", "InvalidLot", "InvalidMembers", "InvalidTree", "InvalidKind", "InvalidQuestion", "InvalidClaim"] : List Str), XfC K ((ct K).cls c) ∧ PySem.W.findIn K (.ref ((ct K).cls c)) "value" = some none := T.fld (by simp only [List.mem_cons, List.not_mem_nil, or_false, forall_eq_or_imp, forall_eq]; refine ⟨⟨["value"], by decide, by decide⟩, ⟨["value"], by decide, by decide⟩, ⟨["value"], by decide, by decide⟩, ⟨["value"], by decide, by decide⟩, ⟨["value"], by decide, by decide⟩, ⟨["value"], by decide, by decide⟩, ⟨["value"], by decide, by decide⟩, ⟨["value"], by decide, by decide⟩, ⟨["value"], by decide, by decide⟩, ⟨["value"], by decide, by decide⟩, ⟨["value"], by decide, by decide⟩, ⟨["value"], by decide, by decide⟩⟩)
theorem Tx.fldE_text (T : Tx K mg) : ∀ c ∈ (["InvalidText"] : List Str), XfC K ((ct K).cls c) ∧ PySem.W.findIn K (.ref ((ct K).cls c)) "text" = some none := T.fld (by simp only [List.mem_cons, List.not_mem_nil, or_false, forall_eq_or_imp, forall_eq]; refine ⟨["text", "at"], by decide, by decide⟩)
theorem Tx.fldE_at (T : Tx K mg) : ∀ c ∈ (["InvalidText"] : List Str), XfC K ((ct K).cls c) ∧ PySem.W.findIn K (.ref ((ct K).cls c)) "at" = some none := T.fld (by simp only [List.mem_cons, List.not_mem_nil, or_false, forall_eq_or_imp, forall_eq]; refine ⟨["text", "at"], by decide, by decide⟩)
theorem Tx.fldE_what (T : Tx K mg) : ∀ c ∈ (["Undefined"] : List Str), XfC K ((ct K).cls c) ∧ PySem.W.findIn K (.ref ((ct K).cls c)) "what" = some none := T.fld (by simp only [List.mem_cons, List.not_mem_nil, or_false, forall_eq_or_imp, forall_eq]; refine ⟨["what"], by decide, by decide⟩)
theorem Tx.fldE_word (T : Tx K mg) : ∀ c ∈ (["NothingToUndo"] : List Str), XfC K ((ct K).cls c) ∧ PySem.W.findIn K (.ref ((ct K).cls c)) "word" = some none := T.fld (by simp only [List.mem_cons, List.not_mem_nil, or_false, forall_eq_or_imp, forall_eq]; refine ⟨["word"], by decide, by decide⟩)
theorem sc_InvalidNumber : FnScope ["self", "value"] ["self", "value"] (defScope s_InvalidNumber) := ⟨rfl, rfl, rfl, by decide +kernel, rfl, by decide +kernel, by decide +kernel⟩
theorem Tx.ok_InvalidNumber (T : Tx K mg) (k : Nat) : FnOk P w K mg base (L2.CX P w) (k + 1) (He.fAd K ("InvalidNumber", some "__init__")) T.d_InvalidNumber ["self", "value"] (spX1 K "value") := init1_ok T.F_InvalidNumber sc_InvalidNumber rfl rfl rfl (by decide) (by decide)
theorem Tx.in_InvalidNumber (T : Tx K mg) : Inits K (He.ga K "InvalidNumber") ["value"] (spX1 K "value") := inits1 T.e_InvalidNumber.o (T.e_InvalidNumber.n _ (by decide))
theorem sc_InvalidGroups : FnScope ["self", "value"] ["self", "value"] (defScope s_InvalidGroups) := ⟨rfl, rfl, rfl, by decide +kernel, rfl, by decide +kernel, by decide +kernel⟩
theorem Tx.ok_InvalidGroups (T : Tx K mg) (k : Nat) : FnOk P w K mg base (L2.CX P w) (k + 1) (He.fAd K ("InvalidGroups", some "__init__")) T.d_InvalidGroups ["self", "value"] (spX1 K "value") := init1_ok T.F_InvalidGroups sc_InvalidGroups rfl rfl rfl (by decide) (by decide)
theorem Tx.in_InvalidGroups (T : Tx K mg) : Inits K (He.ga K "InvalidGroups") ["value"] (spX1 K "value") := inits1 T.e_InvalidGroups.o (T.e_InvalidGroups.n _ (by decide))
theorem sc_InvalidGroup : FnScope ["self", "value"] ["self", "value"] (defScope s_InvalidGroup) := ⟨rfl, rfl, rfl, by decide +kernel, rfl, by decide +kernel, by decide +kernel⟩
theorem Tx.ok_InvalidGroup (T : Tx K mg) (k : Nat) : FnOk P w K mg base (L2.CX P w) (k + 1) (He.fAd K ("InvalidGroup", some "__init__")) T.d_InvalidGroup ["self", "value"] (spX1 K "value") := init1_ok T.F_InvalidGroup sc_InvalidGroup rfl rfl rfl (by decide) (by decide)
theorem Tx.in_InvalidGroup (T : Tx K mg) : Inits K (He.ga K "InvalidGroup") ["value"] (spX1 K "value") := inits1 T.e_InvalidGroup.o (T.e_InvalidGroup.n _ (by decide))
theorem sc_InvalidRanks : FnScope ["self", "value"] ["self", "value"] (defScope s_InvalidRanks) := ⟨rfl, rfl, rfl, by decide +kernel, rfl, by decide +kernel, by decide +kernel⟩
theorem Tx.ok_InvalidRanks (T : Tx K mg) (k : Nat) : FnOk P w K mg base (L2.CX P w) (k + 1) (He.fAd K ("InvalidRanks", some "__init__")) T.d_InvalidRanks ["self", "value"] (spX1 K "value") := init1_ok T.F_InvalidRanks sc_InvalidRanks rfl rfl rfl (by decide) (by decide)
theorem Tx.in_InvalidRanks (T : Tx K mg) : Inits K (He.ga K "InvalidRanks") ["value"] (spX1 K "value") := inits1 T.e_InvalidRanks.o (T.e_InvalidRanks.n _ (by decide))
theorem sc_InvalidValues : FnScope ["self", "value"] ["self", "value"] (defScope s_InvalidValues) := ⟨rfl, rfl, rfl, by decide +kernel, rfl, by decide +kernel, by decide +kernel⟩
theorem Tx.ok_InvalidValues (T : Tx K mg) (k : Nat) : FnOk P w K mg base (L2.CX P w) (k + 1) (He.fAd K ("InvalidValues", some "__init__")) T.d_InvalidValues ["self", "value"] (spX1 K "value") := init1_ok T.F_InvalidValues sc_InvalidValues rfl rfl rfl (by decide) (by decide)
theorem Tx.in_InvalidValues (T : Tx K mg) : Inits K (He.ga K "InvalidValues") ["value"] (spX1 K "value") := inits1 T.e_InvalidValues.o (T.e_InvalidValues.n _ (by decide))
theorem sc_InvalidOrders : FnScope ["self", "value"] ["self", "value"] (defScope s_InvalidOrders) := ⟨rfl, rfl, rfl, by decide +kernel, rfl, by decide +kernel, by decide +kernel⟩
theorem Tx.ok_InvalidOrders (T : Tx K mg) (k : Nat) : FnOk P w K mg base (L2.CX P w) (k + 1) (He.fAd K ("InvalidOrders", some "__init__")) T.d_InvalidOrders ["self", "value"] (spX1 K "value") := init1_ok T.F_InvalidOrders sc_InvalidOrders rfl rfl rfl (by decide) (by decide)
theorem Tx.in_InvalidOrders (T : Tx K mg) : Inits K (He.ga K "InvalidOrders") ["value"] (spX1 K "value") := inits1 T.e_InvalidOrders.o (T.e_InvalidOrders.n _ (by decide))
theorem sc_InvalidText : FnScope ["self", "text", "at"] ["self", "text", "at"] (defScope s_InvalidText) := ⟨rfl, rfl, rfl, by decide +kernel, rfl, by decide +kernel, by decide +kernel⟩
theorem Tx.ok_InvalidText (T : Tx K mg) (k : Nat) : FnOk P w K mg base (L2.CX P w) (k + 1) (He.fAd K ("InvalidText", some "__init__")) T.d_InvalidText ["self", "text", "at"] (spX2 K "text" "at") := init2_ok T.F_InvalidText sc_InvalidText rfl rfl rfl rfl (by decide) (by decide) (by decide) (by decide)
theorem Tx.in_InvalidText (T : Tx K mg) : Inits K (He.ga K "InvalidText") ["text", "at"] (spX2 K "text" "at") := inits2 T.e_InvalidText.o (T.e_InvalidText.n _ (by decide)) (T.e_InvalidText.n _ (by decide))
theorem sc_InvalidLot : FnScope ["self", "value"] ["self", "value"] (defScope s_InvalidLot) := ⟨rfl, rfl, rfl, by decide +kernel, rfl, by decide +kernel, by decide +kernel⟩
theorem Tx.ok_InvalidLot (T : Tx K mg) (k : Nat) : FnOk P w K mg base (L2.CX P w) (k + 1) (He.fAd K ("InvalidLot", some "__init__")) T.d_InvalidLot ["self", "value"] (spX1 K "value") := init1_ok T.F_InvalidLot sc_InvalidLot rfl rfl rfl (by decide) (by decide)
theorem Tx.in_InvalidLot (T : Tx K mg) : Inits K (He.ga K "InvalidLot") ["value"] (spX1 K "value") := inits1 T.e_InvalidLot.o (T.e_InvalidLot.n _ (by decide))
theorem sc_InvalidMembers : FnScope ["self", "value"] ["self", "value"] (defScope s_InvalidMembers) := ⟨rfl, rfl, rfl, by decide +kernel, rfl, by decide +kernel, by decide +kernel⟩
theorem Tx.ok_InvalidMembers (T : Tx K mg) (k : Nat) : FnOk P w K mg base (L2.CX P w) (k + 1) (He.fAd K ("InvalidMembers", some "__init__")) T.d_InvalidMembers ["self", "value"] (spX1 K "value") := init1_ok T.F_InvalidMembers sc_InvalidMembers rfl rfl rfl (by decide) (by decide)
theorem Tx.in_InvalidMembers (T : Tx K mg) : Inits K (He.ga K "InvalidMembers") ["value"] (spX1 K "value") := inits1 T.e_InvalidMembers.o (T.e_InvalidMembers.n _ (by decide))
theorem sc_InvalidTree : FnScope ["self", "value"] ["self", "value"] (defScope s_InvalidTree) := ⟨rfl, rfl, rfl, by decide +kernel, rfl, by decide +kernel, by decide +kernel⟩
theorem Tx.ok_InvalidTree (T : Tx K mg) (k : Nat) : FnOk P w K mg base (L2.CX P w) (k + 1) (He.fAd K ("InvalidTree", some "__init__")) T.d_InvalidTree ["self", "value"] (spX1 K "value") := init1_ok T.F_InvalidTree sc_InvalidTree rfl rfl rfl (by decide) (by decide)
theorem Tx.in_InvalidTree (T : Tx K mg) : Inits K (He.ga K "InvalidTree") ["value"] (spX1 K "value") := inits1 T.e_InvalidTree.o (T.e_InvalidTree.n _ (by decide))
theorem sc_InvalidKind : FnScope ["self", "value"] ["self", "value"] (defScope s_InvalidKind) := ⟨rfl, rfl, rfl, by decide +kernel, rfl, by decide +kernel, by decide +kernel⟩
theorem Tx.ok_InvalidKind (T : Tx K mg) (k : Nat) : FnOk P w K mg base (L2.CX P w) (k + 1) (He.fAd K ("InvalidKind", some "__init__")) T.d_InvalidKind ["self", "value"] (spX1 K "value") := init1_ok T.F_InvalidKind sc_InvalidKind rfl rfl rfl (by decide) (by decide)
theorem Tx.in_InvalidKind (T : Tx K mg) : Inits K (He.ga K "InvalidKind") ["value"] (spX1 K "value") := inits1 T.e_InvalidKind.o (T.e_InvalidKind.n _ (by decide))
theorem sc_InvalidQuestion : FnScope ["self", "value"] ["self", "value"] (defScope s_InvalidQuestion) := ⟨rfl, rfl, rfl, by decide +kernel, rfl, by decide +kernel, by decide +kernel⟩
theorem Tx.ok_InvalidQuestion (T : Tx K mg) (k : Nat) : FnOk P w K mg base (L2.CX P w) (k + 1) (He.fAd K ("InvalidQuestion", some "__init__")) T.d_InvalidQuestion ["self", "value"] (spX1 K "value") := init1_ok T.F_InvalidQuestion sc_InvalidQuestion rfl rfl rfl (by decide) (by decide)
theorem Tx.in_InvalidQuestion (T : Tx K mg) : Inits K (He.ga K "InvalidQuestion") ["value"] (spX1 K "value") := inits1 T.e_InvalidQuestion.o (T.e_InvalidQuestion.n _ (by decide))
theorem sc_InvalidClaim : FnScope ["self", "value"] ["self", "value"] (defScope s_InvalidClaim) := ⟨rfl, rfl, rfl, by decide +kernel, rfl, by decide +kernel, by decide +kernel⟩
theorem Tx.ok_InvalidClaim (T : Tx K mg) (k : Nat) : FnOk P w K mg base (L2.CX P w) (k + 1) (He.fAd K ("InvalidClaim", some "__init__")) T.d_InvalidClaim ["self", "value"] (spX1 K "value") := init1_ok T.F_InvalidClaim sc_InvalidClaim rfl rfl rfl (by decide) (by decide)
theorem Tx.in_InvalidClaim (T : Tx K mg) : Inits K (He.ga K "InvalidClaim") ["value"] (spX1 K "value") := inits1 T.e_InvalidClaim.o (T.e_InvalidClaim.n _ (by decide))
theorem sc_Undefined : FnScope ["self", "what"] ["self", "what"] (defScope s_Undefined) := ⟨rfl, rfl, rfl, by decide +kernel, rfl, by decide +kernel, by decide +kernel⟩
theorem Tx.ok_Undefined (T : Tx K mg) (k : Nat) : FnOk P w K mg base (L2.CX P w) (k + 1) (He.fAd K ("Undefined", some "__init__")) T.d_Undefined ["self", "what"] (spX1 K "what") := init1_ok T.F_Undefined sc_Undefined rfl rfl rfl (by decide) (by decide)
theorem Tx.in_Undefined (T : Tx K mg) : Inits K (He.ga K "Undefined") ["what"] (spX1 K "what") := inits1 T.e_Undefined.o (T.e_Undefined.n _ (by decide))
theorem sc_NothingToUndo : FnScope ["self", "word"] ["self", "word"] (defScope s_NothingToUndo) := ⟨rfl, rfl, rfl, by decide +kernel, rfl, by decide +kernel, by decide +kernel⟩
theorem Tx.ok_NothingToUndo (T : Tx K mg) (k : Nat) : FnOk P w K mg base (L2.CX P w) (k + 1) (He.fAd K ("NothingToUndo", some "__init__")) T.d_NothingToUndo ["self", "word"] (spX1 K "word") := init1_ok T.F_NothingToUndo sc_NothingToUndo rfl rfl rfl (by decide) (by decide)
theorem Tx.in_NothingToUndo (T : Tx K mg) : Inits K (He.ga K "NothingToUndo") ["word"] (spX1 K "word") := inits1 T.e_NothingToUndo.o (T.e_NothingToUndo.n _ (by decide))
def b_law_box_3 : DL.Env → SOut := (sRet (dLst (aCons (dVar 3) (aCons (dOp gAdd (dOp gMod (dCB gInt (vCons (dOp gAdd (dOp gMul (dOp gMod (dCB gInt (vCons (dVar 2) vNil)) (dC (.int 1000000007))) (dC (.int 48271))) (dOp gMul (dC (.int 613)) (dVar 1))) vNil)) (dC (.int 2147483647))) (dC (.int 1))) aNil))))
def b_law_box_2 : DL.Env → SOut := sSeq (sSetD 2 3 (dOp gIx (dLst (aCons (dC (.int 0)) (aCons (dVar 2) aNil))) (dCB gInt (vCons (dOp gGe (dVar 2) (dOp gPow (dC (.int 10)) (dC (.int 18)))) vNil)))) b_law_box_3
def b_law_box_1 : DL.Env → SOut := sSeq (sIf (dTst (dOp gLt (dVar 1) (dCB gLen (vCons (dVar 0) vNil)))) (sSetD 2 2 (dCB gAbs (vCons (dOp gIx (dVar 0) (dVar 1)) vNil))) (sIf (dTst (dOp gGt (dCB gLen (vCons (dVar 0) vNil)) (dC (.int 0)))) (sSetD 2 2 (dOp gAdd (dOp gMul (dOp gMod (dCB gInt (vCons (dCB gAbs (vCons (dOp gIx (dVar 0) (dOp gMod (dCB gInt (vCons (dVar 1) vNil)) (dCB gLen (vCons (dVar 0) vNil)))) vNil)) vNil)) (dC (.int 1000000007))) (dC (.int 31))) (dOp gMul (dC (.int 7919)) (dVar 1)))) sNext)) b_law_box_2
def b_law_box : DL.Env → SOut := sSeq (sSetD 2 2 (dOp gAdd (dOp gMul (dC (.int 7919)) (dVar 1)) (dC (.int 101)))) b_law_box_1
def f_law_box : Fn := DL.run 2 2 b_law_box
theorem sc_law_box : FnScope ["script", "k", "cell", "great"] ["script", "k"] (defScope s_law_box) := ⟨rfl, rfl, rfl, by decide +kernel, rfl, by decide +kernel, by decide +kernel⟩
theorem ok_law_box (T : Tx K mg) (k : Nat) : FnOk P w K mg base (L2.CX P w) (k + 1) (He.fAd K ("_law_box", none)) T.d_law_box ["script", "k"] (spF K (ct K) 2 f_law_box) :=
  fnF T.F_law_box sc_law_box rfl rfl fun cdv A outer s H E hr => by
    have tk0 := takes_of (X := cxOf (L2.CX P w) P w K mg base ["script", "k", "cell", "great"] "_law_box" (defScope s_law_box) (He.fAd K ("_law_box", none)) cdv A outer s H E) (E := E) rfl rfl rfl rfl
    have po := passes_of (X := cxOf (L2.CX P w) P w K mg base ["script", "k", "cell", "great"] "_law_box" (defScope s_law_box) (He.fAd K ("_law_box", none)) cdv A outer s H E) rfl
    exact (db_cons (ds_setD (i := 2) sc_law_box.nd rfl (by first | exact Or.inl rfl | exact Or.inr rfl) (de_add (de_mul de_int (de_var (i := 1))) de_int))
    (db_cons (ds_if (dt_cmp op_lt opD_cmp (de_var (i := 1)) (de_callB call_len callD_len rfl T.n_len b_len (dv_cons (de_var (i := 0)) dv_nil)) (nomark _)) (db_one (ds_setD (i := 2) sc_law_box.nd rfl (by first | exact Or.inl rfl | exact Or.inr rfl) (de_callB call_abs callD_abs rfl T.n_abs b_abs (dv_cons (de_ix (de_var (i := 0)) (de_var (i := 1))) dv_nil)))) (db_one (ds_if (dt_cmp op_gt opD_cmp (de_callB call_len callD_len rfl T.n_len b_len (dv_cons (de_var (i := 0)) dv_nil)) de_int (nomark _)) (db_one (ds_setD (i := 2) sc_law_box.nd rfl (by first | exact Or.inl rfl | exact Or.inr rfl) (de_add (de_mul (de_mod (de_callTy call_int1 callD_int rfl T.n_int b_int (dv_cons (de_callB call_abs callD_abs rfl T.n_abs b_abs (dv_cons (de_ix (de_var (i := 0)) (de_mod (de_callTy call_int1 callD_int rfl T.n_int b_int (dv_cons (de_var (i := 1)) dv_nil)) (de_callB call_len callD_len rfl T.n_len b_len (dv_cons (de_var (i := 0)) dv_nil)))) dv_nil)) dv_nil)) de_int) de_int) (de_mul de_int (de_var (i := 1)))))) db_nil)))
    (db_cons (ds_setD (i := 3) sc_law_box.nd rfl (by first | exact Or.inl rfl | exact Or.inr rfl) (de_ix (de_lst (da_cons de_int (da_cons (de_var (i := 2)) da_nil))) (de_callTy call_int1 callD_int rfl T.n_int b_int (dv_cons (de_ge (de_var (i := 2)) (de_pow de_int de_int)) dv_nil))))
    (db_one (ds_ret (de_lst (da_cons (de_var (i := 3)) (da_cons (de_add (de_mod (de_callTy call_int1 callD_int rfl T.n_int b_int (dv_cons (de_add (de_mul (de_mod (de_callTy call_int1 callD_int rfl T.n_int b_int (dv_cons (de_var (i := 2)) dv_nil)) de_int) de_int) (de_mul de_int (de_var (i := 1)))) dv_nil)) de_int) de_int) da_nil))))))))
def b_law_take_2 : DL.Env → SOut := (sRet (dOp gMod (dCB gInt (vCons (dOp gFdiv (dOp gIx (dVar 0) (dC (.int 1))) (dC (.int 8191))) vNil)) (dVar 1)))
def b_law_take_1 : DL.Env → SOut := sSeq (sSetIx 0 (dOp gMod (dCB gInt (vCons (dOp gAdd (dOp gMul (dOp gIx (dVar 0) (dC (.int 1))) (dC (.int 39373))) (dC (.int 69621))) vNil)) (dC (.int 2147483647))) (dC (.int 1))) b_law_take_2
def b_law_take : DL.Env → SOut := sSeq (sIf (dTst (dOp gGt (dOp gIx (dVar 0) (dC (.int 0))) (dC (.int 0)))) (sSeq (sSetD 2 2 (dOp gMod (dCB gInt (vCons (dOp gIx (dVar 0) (dC (.int 0))) vNil)) (dVar 1)))
    (sSeq (sSetIx 0 (dOp gFdiv (dOp gIx (dVar 0) (dC (.int 0))) (dVar 1)) (dC (.int 0)))
    (sRet (dVar 2)))) sNext) b_law_take_1
def f_law_take : Fn := DL.run 2 1 b_law_take
theorem sc_law_take : FnScope ["box", "many", "got"] ["box", "many"] (defScope s_law_take) := ⟨rfl, rfl, rfl, by decide +kernel, rfl, by decide +kernel, by decide +kernel⟩
theorem ok_law_take (T : Tx K mg) (k : Nat) : FnOk P w K mg base (L2.CX P w) (k + 1) (He.fAd K ("_law_take", none)) T.d_law_take ["box", "many"] (spF K (ct K) 2 f_law_take) :=
  fnF T.F_law_take sc_law_take rfl rfl fun cdv A outer s H E hr => by
    have tk0 := takes_of (X := cxOf (L2.CX P w) P w K mg base ["box", "many", "got"] "_law_take" (defScope s_law_take) (He.fAd K ("_law_take", none)) cdv A outer s H E) (E := E) rfl rfl rfl rfl
    have po := passes_of (X := cxOf (L2.CX P w) P w K mg base ["box", "many", "got"] "_law_take" (defScope s_law_take) (He.fAd K ("_law_take", none)) cdv A outer s H E) rfl
    exact (db_cons (ds_if (dt_cmp op_gt opD_cmp (de_ix (de_var (i := 0)) de_int) de_int (nomark _)) (db_cons (ds_setD (i := 2) sc_law_take.nd rfl (by first | exact Or.inl rfl | exact Or.inr rfl) (de_mod (de_callTy call_int1 callD_int rfl T.n_int b_int (dv_cons (de_ix (de_var (i := 0)) de_int) dv_nil)) (de_var (i := 1))))
    (db_cons (ds_setIx (i := 0) (pe_var rfl (by first | exact Or.inl rfl | exact Or.inr rfl)) (de_fdiv (de_ix (de_var (i := 0)) de_int) (de_var (i := 1))) de_int)
    (db_one (ds_ret (de_var (i := 2)))))) db_nil)
    (db_cons (ds_setIx (i := 0) (pe_var rfl (by first | exact Or.inl rfl | exact Or.inr rfl)) (de_mod (de_callTy call_int1 callD_int rfl T.n_int b_int (dv_cons (de_add (de_mul (de_ix (de_var (i := 0)) de_int) de_int) de_int) dv_nil)) de_int) de_int)
    (db_one (ds_ret (de_mod (de_callTy call_int1 callD_int rfl T.n_int b_int (dv_cons (de_fdiv (de_ix (de_var (i := 0)) de_int) de_int) dv_nil)) (de_var (i := 1)))))))
def b_law_pick : DL.Env → SOut := (sRet (dOp gIx (dVar 1) (dCall1 f_law_take (dVar 0) (aCons (dCB gLen (vCons (dVar 1) vNil)) aNil))))
def f_law_pick : Fn := DL.run 2 0 b_law_pick
theorem sc_law_pick : FnScope ["box", "some"] ["box", "some"] (defScope s_law_pick) := ⟨rfl, rfl, rfl, by decide +kernel, rfl, by decide +kernel, by decide +kernel⟩
theorem ok_law_pick (T : Tx K mg) (k : Nat) : FnOk P w K mg base (L2.CX P w) ((k + 1) + 1) (He.fAd K ("_law_pick", none)) T.d_law_pick ["box", "some"] (spF K (ct K) 2 f_law_pick) :=
  fnF T.F_law_pick sc_law_pick rfl rfl fun cdv A outer s H E hr => by
    have tk0 := takes_of (X := cxOf (L2.CX P w) P w K mg base ["box", "some"] "_law_pick" (defScope s_law_pick) (He.fAd K ("_law_pick", none)) cdv A outer s H E) (E := E) rfl rfl rfl rfl
    have po := passes_of (X := cxOf (L2.CX P w) P w K mg base ["box", "some"] "_law_pick" (defScope s_law_pick) (He.fAd K ("_law_pick", none)) cdv A outer s H E) rfl
    exact (db_one (ds_ret (de_ix (de_var (i := 1)) (de_call1 (ok_law_take T k) ar_run hr rfl T.g_law_take T.F_law_take.kp T.b_law_take tk0 (de_var (i := 0)) (da_cons (de_callB call_len callD_len rfl T.n_len b_len (dv_cons (de_var (i := 1)) dv_nil)) da_nil)))))
def b_law_ones : DL.Env → SOut := (sSeq (sSetD 1 1 (dLst (aCons (dMkE "InvalidNumber" ["value"] (aCons (dVar 0) aNil)) (aCons (dMkE "InvalidGroups" ["value"] (aCons (dVar 0) aNil)) (aCons (dMkE "InvalidGroup" ["value"] (aCons (dVar 0) aNil)) (aCons (dMkE "InvalidRanks" ["value"] (aCons (dVar 0) aNil)) (aCons (dMkE "InvalidValues" ["value"] (aCons (dVar 0) aNil)) (aCons (dMkE "InvalidOrders" ["value"] (aCons (dVar 0) aNil)) aNil))))))))
    (sRet (dOp gAdd (dVar 1) (dLst (aCons (dMkE "InvalidLot" ["value"] (aCons (dVar 0) aNil)) (aCons (dMkE "InvalidMembers" ["value"] (aCons (dVar 0) aNil)) (aCons (dMkE "InvalidTree" ["value"] (aCons (dVar 0) aNil)) (aCons (dMkE "InvalidKind" ["value"] (aCons (dVar 0) aNil)) (aCons (dMkE "InvalidQuestion" ["value"] (aCons (dVar 0) aNil)) (aCons (dMkE "InvalidClaim" ["value"] (aCons (dVar 0) aNil)) aNil))))))))))
def f_law_ones : Fn := DL.run 1 1 b_law_ones
theorem sc_law_ones : FnScope ["v", "found"] ["v"] (defScope s_law_ones) := ⟨rfl, rfl, rfl, by decide +kernel, rfl, by decide +kernel, by decide +kernel⟩
theorem ok_law_ones (T : Tx K mg) (k : Nat) : FnOk P w K mg base (L2.CX P w) ((k + 2) + 1) (He.fAd K ("_law_ones", none)) T.d_law_ones ["v"] (spF K (ct K) 1 f_law_ones) :=
  fnF T.F_law_ones sc_law_ones rfl rfl fun cdv A outer s H E hr => by
    have tk0 := takes_of (X := cxOf (L2.CX P w) P w K mg base ["v", "found"] "_law_ones" (defScope s_law_ones) (He.fAd K ("_law_ones", none)) cdv A outer s H E) (E := E) rfl rfl rfl rfl
    have po := passes_of (X := cxOf (L2.CX P w) P w K mg base ["v", "found"] "_law_ones" (defScope s_law_ones) (He.fAd K ("_law_ones", none)) cdv A outer s H E) rfl
    exact (db_cons (ds_setD (i := 1) sc_law_ones.nd rfl (by first | exact Or.inl rfl | exact Or.inr rfl) (de_lst (da_cons (de_mkE (c := "InvalidNumber") (fs := ["value"]) T.e_InvalidNumber.o T.e_InvalidNumber.i T.e_InvalidNumber.t (T.ok_InvalidNumber k) T.in_InvalidNumber hr T.bi_InvalidNumber rfl T.g_InvalidNumber (da_cons (de_var (i := 0)) da_nil)) (da_cons (de_mkE (c := "InvalidGroups") (fs := ["value"]) T.e_InvalidGroups.o T.e_InvalidGroups.i T.e_InvalidGroups.t (T.ok_InvalidGroups k) T.in_InvalidGroups hr T.bi_InvalidGroups rfl T.g_InvalidGroups (da_cons (de_var (i := 0)) da_nil)) (da_cons (de_mkE (c := "InvalidGroup") (fs := ["value"]) T.e_InvalidGroup.o T.e_InvalidGroup.i T.e_InvalidGroup.t (T.ok_InvalidGroup k) T.in_InvalidGroup hr T.bi_InvalidGroup rfl T.g_InvalidGroup (da_cons (de_var (i := 0)) da_nil)) (da_cons (de_mkE (c := "InvalidRanks") (fs := ["value"]) T.e_InvalidRanks.o T.e_InvalidRanks.i T.e_InvalidRanks.t (T.ok_InvalidRanks k) T.in_InvalidRanks hr T.bi_InvalidRanks rfl T.g_InvalidRanks (da_cons (de_var (i := 0)) da_nil)) (da_cons (de_mkE (c := "InvalidValues") (fs := ["value"]) T.e_InvalidValues.o T.e_InvalidValues.i T.e_InvalidValues.t (T.ok_InvalidValues k) T.in_InvalidValues hr T.bi_InvalidValues rfl T.g_InvalidValues (da_cons (de_var (i := 0)) da_nil)) (da_cons (de_mkE (c := "InvalidOrders") (fs := ["value"]) T.e_InvalidOrders.o T.e_InvalidOrders.i T.e_InvalidOrders.t (T.ok_InvalidOrders k) T.in_InvalidOrders hr T.bi_InvalidOrders rfl T.g_InvalidOrders (da_cons (de_var (i := 0)) da_nil)) da_nil))))))))
    (db_one (ds_ret (de_add (de_var (i := 1)) (de_lst (da_cons (de_mkE (c := "InvalidLot") (fs := ["value"]) T.e_InvalidLot.o T.e_InvalidLot.i T.e_InvalidLot.t (T.ok_InvalidLot k) T.in_InvalidLot hr T.bi_InvalidLot rfl T.g_InvalidLot (da_cons (de_var (i := 0)) da_nil)) (da_cons (de_mkE (c := "InvalidMembers") (fs := ["value"]) T.e_InvalidMembers.o T.e_InvalidMembers.i T.e_InvalidMembers.t (T.ok_InvalidMembers k) T.in_InvalidMembers hr T.bi_InvalidMembers rfl T.g_InvalidMembers (da_cons (de_var (i := 0)) da_nil)) (da_cons (de_mkE (c := "InvalidTree") (fs := ["value"]) T.e_InvalidTree.o T.e_InvalidTree.i T.e_InvalidTree.t (T.ok_InvalidTree k) T.in_InvalidTree hr T.bi_InvalidTree rfl T.g_InvalidTree (da_cons (de_var (i := 0)) da_nil)) (da_cons (de_mkE (c := "InvalidKind") (fs := ["value"]) T.e_InvalidKind.o T.e_InvalidKind.i T.e_InvalidKind.t (T.ok_InvalidKind k) T.in_InvalidKind hr T.bi_InvalidKind rfl T.g_InvalidKind (da_cons (de_var (i := 0)) da_nil)) (da_cons (de_mkE (c := "InvalidQuestion") (fs := ["value"]) T.e_InvalidQuestion.o T.e_InvalidQuestion.i T.e_InvalidQuestion.t (T.ok_InvalidQuestion k) T.in_InvalidQuestion hr T.bi_InvalidQuestion rfl T.g_InvalidQuestion (da_cons (de_var (i := 0)) da_nil)) (da_cons (de_mkE (c := "InvalidClaim") (fs := ["value"]) T.e_InvalidClaim.o T.e_InvalidClaim.i T.e_InvalidClaim.t (T.ok_InvalidClaim k) T.in_InvalidClaim hr T.bi_InvalidClaim rfl T.g_InvalidClaim (da_cons (de_var (i := 0)) da_nil)) da_nil)))))))))))
def b_law_kinds_4 : DL.Env → SOut := (sRet (dOp gAdd (dVar 1) (dLst (aCons (dIsiE known (sb "Undefined") (dVar 0)) (aCons (dIsiE known (sb "NothingToUndo") (dVar 0)) (aCons (dIsiE known (sb "GroupError") (dVar 0)) (aCons (dIsiE known (fun _ => true) (dVar 0)) aNil)))))))
def b_law_kinds_3 : DL.Env → SOut := sSeq (sSetD 1 1 (dOp gAdd (dVar 1) (dLst (aCons (dIsiE known (sb "InvalidQuestion") (dVar 0)) (aCons (dIsiE known (sb "InvalidClaim") (dVar 0)) (aCons (dIsiE known (sb "InvalidText") (dVar 0)) aNil)))))) b_law_kinds_4
def b_law_kinds_2 : DL.Env → SOut := sSeq (sSetD 1 1 (dOp gAdd (dVar 1) (dLst (aCons (dIsiE known (sb "InvalidMembers") (dVar 0)) (aCons (dIsiE known (sb "InvalidTree") (dVar 0)) (aCons (dIsiE known (sb "InvalidKind") (dVar 0)) aNil)))))) b_law_kinds_3
def b_law_kinds_1 : DL.Env → SOut := sSeq (sSetD 1 1 (dOp gAdd (dVar 1) (dLst (aCons (dIsiE known (sb "InvalidValues") (dVar 0)) (aCons (dIsiE known (sb "InvalidOrders") (dVar 0)) (aCons (dIsiE known (sb "InvalidLot") (dVar 0)) aNil)))))) b_law_kinds_2
def b_law_kinds : DL.Env → SOut := sSeq (sSetD 1 1 (dLst (aCons (dIsiE known (sb "InvalidNumber") (dVar 0)) (aCons (dIsiE known (sb "InvalidGroups") (dVar 0)) (aCons (dIsiE known (sb "InvalidGroup") (dVar 0)) (aCons (dIsiE known (sb "InvalidRanks") (dVar 0)) aNil)))))) b_law_kinds_1
def f_law_kinds : Fn := DL.run 1 1 b_law_kinds
theorem sc_law_kinds : FnScope ["e", "found"] ["e"] (defScope s_law_kinds) := ⟨rfl, rfl, rfl, by decide +kernel, rfl, by decide +kernel, by decide +kernel⟩
theorem ok_law_kinds (T : Tx K mg) (k : Nat) : FnOk P w K mg base (L2.CX P w) (k + 1) (He.fAd K ("_law_kinds", none)) T.d_law_kinds ["e"] (spF K (ct K) 1 f_law_kinds) :=
  fnF T.F_law_kinds sc_law_kinds rfl rfl fun cdv A outer s H E hr => by
    have tk0 := takes_of (X := cxOf (L2.CX P w) P w K mg base ["e", "found"] "_law_kinds" (defScope s_law_kinds) (He.fAd K ("_law_kinds", none)) cdv A outer s H E) (E := E) rfl rfl rfl rfl
    have po := passes_of (X := cxOf (L2.CX P w) P w K mg base ["e", "found"] "_law_kinds" (defScope s_law_kinds) (He.fAd K ("_law_kinds", none)) cdv A outer s H E) rfl
    exact (db_cons (ds_setD (i := 1) sc_law_kinds.nd rfl (by first | exact Or.inl rfl | exact Or.inr rfl) (de_lst (da_cons (de_isiE (v := .ref (He.ga K "InvalidNumber")) T.ecc (T.kit (y := "InvalidNumber") (by decide)) (.own _) (pe_glob rfl T.g_InvalidNumber rfl) rfl T.n_isinstance (de_var (i := 0))) (da_cons (de_isiE (v := .ref (He.ga K "InvalidGroups")) T.ecc (T.kit (y := "InvalidGroups") (by decide)) (.own _) (pe_glob rfl T.g_InvalidGroups rfl) rfl T.n_isinstance (de_var (i := 0))) (da_cons (de_isiE (v := .ref (He.ga K "InvalidGroup")) T.ecc (T.kit (y := "InvalidGroup") (by decide)) (.own _) (pe_glob rfl T.g_InvalidGroup rfl) rfl T.n_isinstance (de_var (i := 0))) (da_cons (de_isiE (v := .ref (He.ga K "InvalidRanks")) T.ecc (T.kit (y := "InvalidRanks") (by decide)) (.own _) (pe_glob rfl T.g_InvalidRanks rfl) rfl T.n_isinstance (de_var (i := 0))) da_nil))))))
    (db_cons (ds_setD (i := 1) sc_law_kinds.nd rfl (by first | exact Or.inl rfl | exact Or.inr rfl) (de_add (de_var (i := 1)) (de_lst (da_cons (de_isiE (v := .ref (He.ga K "InvalidValues")) T.ecc (T.kit (y := "InvalidValues") (by decide)) (.own _) (pe_glob rfl T.g_InvalidValues rfl) rfl T.n_isinstance (de_var (i := 0))) (da_cons (de_isiE (v := .ref (He.ga K "InvalidOrders")) T.ecc (T.kit (y := "InvalidOrders") (by decide)) (.own _) (pe_glob rfl T.g_InvalidOrders rfl) rfl T.n_isinstance (de_var (i := 0))) (da_cons (de_isiE (v := .ref (He.ga K "InvalidLot")) T.ecc (T.kit (y := "InvalidLot") (by decide)) (.own _) (pe_glob rfl T.g_InvalidLot rfl) rfl T.n_isinstance (de_var (i := 0))) da_nil))))))
    (db_cons (ds_setD (i := 1) sc_law_kinds.nd rfl (by first | exact Or.inl rfl | exact Or.inr rfl) (de_add (de_var (i := 1)) (de_lst (da_cons (de_isiE (v := .ref (He.ga K "InvalidMembers")) T.ecc (T.kit (y := "InvalidMembers") (by decide)) (.own _) (pe_glob rfl T.g_InvalidMembers rfl) rfl T.n_isinstance (de_var (i := 0))) (da_cons (de_isiE (v := .ref (He.ga K "InvalidTree")) T.ecc (T.kit (y := "InvalidTree") (by decide)) (.own _) (pe_glob rfl T.g_InvalidTree rfl) rfl T.n_isinstance (de_var (i := 0))) (da_cons (de_isiE (v := .ref (He.ga K "InvalidKind")) T.ecc (T.kit (y := "InvalidKind") (by decide)) (.own _) (pe_glob rfl T.g_InvalidKind rfl) rfl T.n_isinstance (de_var (i := 0))) da_nil))))))
    (db_cons (ds_setD (i := 1) sc_law_kinds.nd rfl (by first | exact Or.inl rfl | exact Or.inr rfl) (de_add (de_var (i := 1)) (de_lst (da_cons (de_isiE (v := .ref (He.ga K "InvalidQuestion")) T.ecc (T.kit (y := "InvalidQuestion") (by decide)) (.own _) (pe_glob rfl T.g_InvalidQuestion rfl) rfl T.n_isinstance (de_var (i := 0))) (da_cons (de_isiE (v := .ref (He.ga K "InvalidClaim")) T.ecc (T.kit (y := "InvalidClaim") (by decide)) (.own _) (pe_glob rfl T.g_InvalidClaim rfl) rfl T.n_isinstance (de_var (i := 0))) (da_cons (de_isiE (v := .ref (He.ga K "InvalidText")) T.ecc (T.kit (y := "InvalidText") (by decide)) (.own _) (pe_glob rfl T.g_InvalidText rfl) rfl T.n_isinstance (de_var (i := 0))) da_nil))))))
    (db_one (ds_ret (de_add (de_var (i := 1)) (de_lst (da_cons (de_isiE (v := .ref (He.ga K "Undefined")) T.ecc (T.kit (y := "Undefined") (by decide)) (.own _) (pe_glob rfl T.g_Undefined rfl) rfl T.n_isinstance (de_var (i := 0))) (da_cons (de_isiE (v := .ref (He.ga K "NothingToUndo")) T.ecc (T.kit (y := "NothingToUndo") (by decide)) (.own _) (pe_glob rfl T.g_NothingToUndo rfl) rfl T.n_isinstance (de_var (i := 0))) (da_cons (de_isiE (v := .ref (He.ga K "GroupError")) T.ecc (T.kit (y := "GroupError") (by decide)) (.own _) (pe_glob rfl T.g_GroupError rfl) rfl T.n_isinstance (de_var (i := 0))) (da_cons (de_isiE (v := .ty "ValueError") T.ecc T.kitV (.ty _) (pe_bltn rfl T.n_ValueError b_VE rfl) rfl T.n_isinstance (de_var (i := 0))) da_nil))))))))))))
def b_law_13 : DL.Env → SOut := (sRet (dC (.bool true)))
def b_law_12 : DL.Env → SOut := sSeq (sFor (dItR dRng1 (vCons (dCB gLen (vCons (dVar 5) vNil)) vNil)) (gSet 1 10) (sIf (dTst (dOp gNe (dCall0 f_law_kinds (aCons (dOp gIx (dVar 5) (dVar 10)) aNil)) (dComp [11] (dItR dRng1 (vCons (dOp gAdd (dCB gLen (vCons (dVar 5) vNil)) (dC (.int 2))) vNil)) (gSet 0 11) tYesD (dOr (dOp gEq (dVar 11) (dVar 10)) (dOp gGe (dVar 11) (dCB gLen (vCons (dVar 5) vNil))))))) (sRet (dC (.bool false))) sNext)) b_law_13
def b_law_11 : DL.Env → SOut := sSeq (sSetD 1 5 (dOp gAdd (dVar 5) (dLst (aCons (dVar 7) (aCons (dVar 8) (aCons (dVar 9) aNil)))))) b_law_12
def b_law_10 : DL.Env → SOut := sSeq (sIf (tOr' (dTst (dOp gNe (dUn (gFldE ["InvalidText"] "text") (dVar 7)) (dVar 3))) (tOr' (dTst (dOp gNe (dUn (gFldE ["InvalidText"] "at") (dVar 7)) (dVar 4))) (tOr' (dTst (dOp gNe (dUn (gFldE ["Undefined"] "what") (dVar 8)) (dVar 3))) (dTst (dOp gNe (dUn (gFldE ["NothingToUndo"] "word") (dVar 9)) (dVar 3)))))) (sRet (dC (.bool false))) sNext) b_law_11
def b_law_9 : DL.Env → SOut := sSeq (sSetD 1 9 (dMkE "NothingToUndo" ["word"] (aCons (dVar 3) aNil))) b_law_10
def b_law_8 : DL.Env → SOut := sSeq (sSetD 1 8 (dMkE "Undefined" ["what"] (aCons (dVar 3) aNil))) b_law_9
def b_law_7 : DL.Env → SOut := sSeq (sSetD 1 7 (dMkE "InvalidText" ["text", "at"] (aCons (dVar 3) (aCons (dVar 4) aNil)))) b_law_8
def b_law_6 : DL.Env → SOut := sSeq (sFor (dIt (dVar 5)) (gSet 1 6) (sIf (dTst (dOp gNe (dUn (gFldE ["InvalidNumber", "InvalidGroups", "InvalidGroup", "InvalidRanks", "InvalidValues", "InvalidOrders", "InvalidLot", "InvalidMembers", "InvalidTree", "InvalidKind", "InvalidQuestion", "InvalidClaim"] "value") (dVar 6)) (dVar 3))) (sRet (dC (.bool false))) sNext)) b_law_7
def b_law_5 : DL.Env → SOut := sSeq (sSetD 1 5 (dCall0 f_law_ones (aCons (dVar 3) aNil))) b_law_6
def b_law_4 : DL.Env → SOut := sSeq (sSetD 1 4 (dCall1 f_law_pick (dVar 1) (aCons (dVar 2) aNil))) b_law_5
def b_law_3 : DL.Env → SOut := sSeq (sSetD 1 3 (dCall1 f_law_pick (dVar 1) (aCons (dVar 2) aNil))) b_law_4
def b_law_2 : DL.Env → SOut := sSeq (sSetD 1 2 (dOp gAdd (dVar 2) (dLst (aCons (dLst (aCons (dCall1 f_law_take (dVar 1) (aCons (dC (.int 9)) aNil)) aNil)) (aCons (dC .none) (aCons (dC (.bool true)) (aCons (dTup aNil) aNil))))))) b_law_3
def b_law_1 : DL.Env → SOut := sSeq (sSetD 1 2 (dLst (aCons (dOp gMinus (dCall1 f_law_take (dVar 1) (aCons (dOp gPow (dC (.int 10)) (dC (.int 6))) aNil)) (dC (.int 500000))) (aCons (dOp gAdd (dC (.str "text ")) (dCB gStrI (vCons (dCall1 f_law_take (dVar 1) (aCons (dC (.int 99)) aNil)) vNil))) (aCons (dTup (aCons (dC (.int 1)) (aCons (dCall1 f_law_take (dVar 1) (aCons (dC (.int 9)) aNil)) aNil))) aNil))))) b_law_2
def b_law : DL.Env → SOut := sSeq (sSet 1 1 (dCall0 f_law_box (aCons (dVar 0) (aCons (dC (.int 0)) aNil)))) b_law_1
def f_law : Fn := DL.run 1 11 b_law
theorem sc_law : FnScope ["script", "box", "some", "v", "w", "errors", "one", "text", "what", "word", "k", "j"] ["script"] (defScope s_law) := ⟨rfl, rfl, rfl, by decide +kernel, rfl, by decide +kernel, by decide +kernel⟩
theorem ok_law (T : Tx K mg) (k : Nat) : FnOk P w K mg base (L2.CX P w) ((k + 3) + 1) (He.fAd K ("law", none)) T.d_law ["script"] (spF K (ct K) 1 f_law) :=
  fnF T.F_law sc_law rfl rfl fun cdv A outer s H E hr => by
    have tk0 := takes_of (X := cxOf (L2.CX P w) P w K mg base ["script", "box", "some", "v", "w", "errors", "one", "text", "what", "word", "k", "j"] "law" (defScope s_law) (He.fAd K ("law", none)) cdv A outer s H E) (E := E) rfl rfl rfl rfl
    have po := passes_of (X := cxOf (L2.CX P w) P w K mg base ["script", "box", "some", "v", "w", "errors", "one", "text", "what", "word", "k", "j"] "law" (defScope s_law) (He.fAd K ("law", none)) cdv A outer s H E) rfl
    exact (db_cons (ds_set (i := 1) sc_law.nd rfl (by first | exact Or.inl rfl | exact Or.inr rfl) (de_call0 (ok_law_box T (k + 2)) ar_run hr rfl T.g_law_box T.F_law_box.kp T.b_law_box tk0 (da_cons (de_var (i := 0)) (da_cons de_int da_nil))))
    (db_cons (ds_setD (i := 2) sc_law.nd rfl (by first | exact Or.inl rfl | exact Or.inr rfl) (de_lst (da_cons (de_sub (de_call1 (ok_law_take T (k + 2)) ar_run hr rfl T.g_law_take T.F_law_take.kp T.b_law_take tk0 (de_var (i := 1)) (da_cons (de_pow de_int de_int) da_nil)) de_int) (da_cons (de_add de_str (de_callTy call_str_int callD_strI rfl T.n_str b_str (dv_cons (de_call1 (ok_law_take T (k + 2)) ar_run hr rfl T.g_law_take T.F_law_take.kp T.b_law_take tk0 (de_var (i := 1)) (da_cons de_int da_nil)) dv_nil))) (da_cons (de_tup (da_cons de_int (da_cons (de_call1 (ok_law_take T (k + 2)) ar_run hr rfl T.g_law_take T.F_law_take.kp T.b_law_take tk0 (de_var (i := 1)) (da_cons de_int da_nil)) da_nil))) da_nil)))))
    (db_cons (ds_setD (i := 2) sc_law.nd rfl (by first | exact Or.inl rfl | exact Or.inr rfl) (de_add (de_var (i := 2)) (de_lst (da_cons (de_lst (da_cons (de_call1 (ok_law_take T (k + 2)) ar_run hr rfl T.g_law_take T.F_law_take.kp T.b_law_take tk0 (de_var (i := 1)) (da_cons de_int da_nil)) da_nil)) (da_cons de_non (da_cons de_bl (da_cons (de_tup da_nil) da_nil)))))))
    (db_cons (ds_setD (i := 3) sc_law.nd rfl (by first | exact Or.inl rfl | exact Or.inr rfl) (de_call1 (ok_law_pick T (k + 1)) ar_run hr rfl T.g_law_pick T.F_law_pick.kp T.b_law_pick tk0 (de_var (i := 1)) (da_cons (de_var (i := 2)) da_nil)))
    (db_cons (ds_setD (i := 4) sc_law.nd rfl (by first | exact Or.inl rfl | exact Or.inr rfl) (de_call1 (ok_law_pick T (k + 1)) ar_run hr rfl T.g_law_pick T.F_law_pick.kp T.b_law_pick tk0 (de_var (i := 1)) (da_cons (de_var (i := 2)) da_nil)))
    (db_cons (ds_setD (i := 5) sc_law.nd rfl (by first | exact Or.inl rfl | exact Or.inr rfl) (de_call0 (ok_law_ones T k) ar_run hr rfl T.g_law_ones T.F_law_ones.kp T.b_law_ones tk0 (da_cons (de_var (i := 3)) da_nil)))
    (db_cons (ds_for po rfl (di_seq (de_var (i := 5))) (dg_name (i := 6) sc_law.nd rfl (by first | exact Or.inl rfl | exact Or.inr rfl)) (db_one (ds_if (dt_cmp (op_neP hr.units) opD_ne (de_fldE (T.fldE_value) (de_var (i := 6))) (de_var (i := 3)) (nomark _)) (db_one (ds_ret de_bl)) db_nil)))
    (db_cons (ds_setD (i := 7) sc_law.nd rfl (by first | exact Or.inl rfl | exact Or.inr rfl) (de_mkE (c := "InvalidText") (fs := ["text", "at"]) T.e_InvalidText.o T.e_InvalidText.i T.e_InvalidText.t (T.ok_InvalidText (k + 1)) T.in_InvalidText hr T.bi_InvalidText rfl T.g_InvalidText (da_cons (de_var (i := 3)) (da_cons (de_var (i := 4)) da_nil))))
    (db_cons (ds_setD (i := 8) sc_law.nd rfl (by first | exact Or.inl rfl | exact Or.inr rfl) (de_mkE (c := "Undefined") (fs := ["what"]) T.e_Undefined.o T.e_Undefined.i T.e_Undefined.t (T.ok_Undefined (k + 1)) T.in_Undefined hr T.bi_Undefined rfl T.g_Undefined (da_cons (de_var (i := 3)) da_nil)))
    (db_cons (ds_setD (i := 9) sc_law.nd rfl (by first | exact Or.inl rfl | exact Or.inr rfl) (de_mkE (c := "NothingToUndo") (fs := ["word"]) T.e_NothingToUndo.o T.e_NothingToUndo.i T.e_NothingToUndo.t (T.ok_NothingToUndo (k + 1)) T.in_NothingToUndo hr T.bi_NothingToUndo rfl T.g_NothingToUndo (da_cons (de_var (i := 3)) da_nil)))
    (db_cons (ds_if (dt_w (dw_or (dt_cmp (op_neP hr.units) opD_ne (de_fldE (T.fldE_text) (de_var (i := 7))) (de_var (i := 3)) (nomark _)) (dw_or (dt_cmp (op_neP hr.units) opD_ne (de_fldE (T.fldE_at) (de_var (i := 7))) (de_var (i := 4)) (nomark _)) (dw_or (dt_cmp (op_neP hr.units) opD_ne (de_fldE (T.fldE_what) (de_var (i := 8))) (de_var (i := 3)) (nomark _)) (dw_or1 (dt_cmp (op_neP hr.units) opD_ne (de_fldE (T.fldE_word) (de_var (i := 9))) (de_var (i := 3)) (nomark _))))))) (db_one (ds_ret de_bl)) db_nil)
    (db_cons (ds_setD (i := 5) sc_law.nd rfl (by first | exact Or.inl rfl | exact Or.inr rfl) (de_add (de_var (i := 5)) (de_lst (da_cons (de_var (i := 7)) (da_cons (de_var (i := 8)) (da_cons (de_var (i := 9)) da_nil))))))
    (db_cons (ds_for po rfl (di_rng1 rfl T.n_range (dv_cons (de_callB call_len callD_len rfl T.n_len b_len (dv_cons (de_var (i := 5)) dv_nil)) dv_nil)) (dg_name (i := 10) sc_law.nd rfl (by first | exact Or.inl rfl | exact Or.inr rfl)) (db_one (ds_if (dt_cmp (op_neP hr.units) opD_ne (de_call0 (ok_law_kinds T (k + 2)) ar_run hr rfl T.g_law_kinds T.F_law_kinds.kp T.b_law_kinds tk0 (da_cons (de_ix (de_var (i := 5)) (de_var (i := 10))) da_nil)) (de_comp (n := 0) (is := [11]) (own := [("j", 11)]) rfl sc_law.nd (di_rng1 rfl T.n_range (dv_cons (de_add (de_callB call_len callD_len rfl T.n_len b_len (dv_cons (de_var (i := 5)) dv_nil)) de_int) dv_nil)) (blk_of (by kernel_rfl)) (by simp) (cg_name (i := 11) sc_law.nd rfl rfl) (fun _ _ _ _ _ => pts_yes (K := K)) (fun _ _ _ _ _ => (de_or (de_eq hr.units (de_var (i := 11)) (de_var (i := 10))) (de_one (de_ge (de_var (i := 11)) (de_callB call_len callD_len rfl T.n_len b_len (dv_cons (de_var (i := 5)) dv_nil))))))) (nomark _)) (db_one (ds_ret de_bl)) db_nil)))
    (db_one (ds_ret de_bl)))))))))))))))
end
end K1
end
section
set_option Elab.async false
set_option linter.all false
set_option maxRecDepth 100000
set_option maxHeartbeats 0
namespace K1
open PySem PySem.Spec PyProof.Rows L2 DL
abbrev bx (g s : Int) : Sl := .own [.int g, .int s]
theorem take_ok (g s m : Int) (hg : 0 ≤ g) (hs : 0 ≤ s) (hm : 0 < m) (hm2 : m < 1073741824) : ∃ r g' s', f_law_take [bx g s, .dat (.int m)] = .ret (.dat (.int r)) [bx g' s', .dat (.int m)] ∧ 0 ≤ r ∧ r < m ∧ 0 ≤ g' ∧ 0 ≤ s' := by
  have e1 : 0 ≤ (s * 39373 + 69621) % 2147483647 := Int.emod_nonneg _ (by decide)
  by_cases h : 0 < g
  · refine ⟨g % m, g / m, s, ?_, Int.emod_nonneg _ (by omega), Int.emod_lt_of_pos _ hm, Int.ediv_nonneg hg (by omega), hs⟩
    simp [f_law_take, DL.run, b_law_take, b_law_take_1, b_law_take_2, sSeq, sNext, sRet, sIf, sFor, sSet, sSetD, sSetIx, dTst, dTru, dOp, dUn, dVar, dC, dCB, vCons, vNil, aCons, aNil, dLst, dTup, dCall0, dCall1, dMkE, dIsiE, lookD, Sl.look, lookS, putS, lookAll, frz, Out.bind, boolD, truD, gAdd, gMinus, gMul, gFdiv, gMod, gPow, gCmpI, gIx, gLen, gAbs, gInt, gStrI, atI, ixN, Res.vl, fin, dB, dOr, dAnd, dNot, dIf, tOr', tAnd', tNot', dIt, dItR, dRng1, DL.inR, gSet, sizeLine_eq, scrD, h, hm, hm2]
  · refine ⟨((s * 39373 + 69621) % 2147483647 / 8191) % m, g, (s * 39373 + 69621) % 2147483647, ?_, Int.emod_nonneg _ (by omega), Int.emod_lt_of_pos _ hm, hg, e1⟩
    simp [f_law_take, DL.run, b_law_take, b_law_take_1, b_law_take_2, sSeq, sNext, sRet, sIf, sFor, sSet, sSetD, sSetIx, dTst, dTru, dOp, dUn, dVar, dC, dCB, vCons, vNil, aCons, aNil, dLst, dTup, dCall0, dCall1, dMkE, dIsiE, lookD, Sl.look, lookS, putS, lookAll, frz, Out.bind, boolD, truD, gAdd, gMinus, gMul, gFdiv, gMod, gPow, gCmpI, gIx, gLen, gAbs, gInt, gStrI, atI, ixN, Res.vl, fin, dB, dOr, dAnd, dNot, dIf, tOr', tAnd', tNot', dIt, dItR, dRng1, DL.inR, gSet, sizeLine_eq, scrD, h, hm, hm2]
/-- what script a law is given -/
abbrev scr (ns : List Int) : D := scrD (ns.map .int)
theorem box0_ok (ns : List Int) : ∃ g s, f_law_box [.dat (scr ns), .dat (.int 0)] = .ret (bx g s) [.dat (scr ns), .dat (.int 0)] ∧ 0 ≤ g ∧ 0 ≤ s := by
  have fini : ∀ c : Int, 0 ≤ c → ∃ g s, fin 2 (b_law_box_2 [.dat (scr ns), .dat (.int 0), .dat (.int c), .non]) = .ret (bx g s) [.dat (scr ns), .dat (.int 0)] ∧ 0 ≤ g ∧ 0 ≤ s := by
    intro c hc
    have e1 : 0 ≤ c % 1000000007 * 48271 % 2147483647 + 1 := by have := Int.emod_nonneg (c % 1000000007 * 48271) (by decide : (2147483647 : Int) ≠ 0); omega
    by_cases h : 1000000000000000000 ≤ c
    · refine ⟨c, _, ?_, hc, e1⟩
      simp [b_law_box_2, b_law_box_3, sSeq, sNext, sRet, sIf, sFor, sSet, sSetD, sSetIx, dTst, dTru, dOp, dUn, dVar, dC, dCB, vCons, vNil, aCons, aNil, dLst, dTup, dCall0, dCall1, dMkE, dIsiE, lookD, Sl.look, lookS, putS, lookAll, frz, Out.bind, boolD, truD, gAdd, gMinus, gMul, gFdiv, gMod, gPow, gCmpI, gIx, gLen, gAbs, gInt, gStrI, atI, ixN, Res.vl, fin, dB, dOr, dAnd, dNot, dIf, tOr', tAnd', tNot', dIt, dItR, dRng1, DL.inR, gSet, sizeLine_eq, scrD, h]
    · refine ⟨0, _, ?_, by decide, e1⟩
      simp [b_law_box_2, b_law_box_3, sSeq, sNext, sRet, sIf, sFor, sSet, sSetD, sSetIx, dTst, dTru, dOp, dUn, dVar, dC, dCB, vCons, vNil, aCons, aNil, dLst, dTup, dCall0, dCall1, dMkE, dIsiE, lookD, Sl.look, lookS, putS, lookAll, frz, Out.bind, boolD, truD, gAdd, gMinus, gMul, gFdiv, gMod, gPow, gCmpI, gIx, gLen, gAbs, gInt, gStrI, atI, ixN, Res.vl, fin, dB, dOr, dAnd, dNot, dIf, tOr', tAnd', tNot', dIt, dItR, dRng1, DL.inR, gSet, sizeLine_eq, scrD, h]
  cases ns with
  | nil =>
    obtain ⟨g, s, h, q⟩ := fini 101 (by decide)
    refine ⟨g, s, ?_, q⟩
    rw [← h]
    simp [f_law_box, DL.run, b_law_box, b_law_box_1, sSeq, sNext, sRet, sIf, sFor, sSet, sSetD, sSetIx, dTst, dTru, dOp, dUn, dVar, dC, dCB, vCons, vNil, aCons, aNil, dLst, dTup, dCall0, dCall1, dMkE, dIsiE, lookD, Sl.look, lookS, putS, lookAll, frz, Out.bind, boolD, truD, gAdd, gMinus, gMul, gFdiv, gMod, gPow, gCmpI, gIx, gLen, gAbs, gInt, gStrI, atI, ixN, Res.vl, fin, dB, dOr, dAnd, dNot, dIf, tOr', tAnd', tNot', dIt, dItR, dRng1, DL.inR, gSet, sizeLine_eq, scrD]
  | cons x xs =>
    obtain ⟨g, s, h, q⟩ := fini (if x < 0 then -x else x) (by split <;> omega)
    refine ⟨g, s, ?_, q⟩
    rw [← h]
    have hl : (0 : Int) < (xs.length : Int) + 1 := by omega
    simp [f_law_box, DL.run, b_law_box, b_law_box_1, sSeq, sNext, sRet, sIf, sFor, sSet, sSetD, sSetIx, dTst, dTru, dOp, dUn, dVar, dC, dCB, vCons, vNil, aCons, aNil, dLst, dTup, dCall0, dCall1, dMkE, dIsiE, lookD, Sl.look, lookS, putS, lookAll, frz, Out.bind, boolD, truD, gAdd, gMinus, gMul, gFdiv, gMod, gPow, gCmpI, gIx, gLen, gAbs, gInt, gStrI, atI, ixN, Res.vl, fin, dB, dOr, dAnd, dNot, dIf, tOr', tAnd', tNot', dIt, dItR, dRng1, DL.inR, gSet, sizeLine_eq, scrD, hl]
end K1
end
section
set_option Elab.async false
set_option linter.all false
set_option maxRecDepth 100000
set_option maxHeartbeats 0
namespace K1
open PySem PySem.Spec PyProof.Rows L2 DL
theorem pick_ok (g s : Int) (ds : List D) (hg : 0 ≤ g) (hs : 0 ≤ s) (h0 : 0 < ds.length) (h1 : ds.length < 1000) : ∃ d g' s', f_law_pick [bx g s, .dat (.list ds)] = .ret (.dat d) [bx g' s', .dat (.list ds)] ∧ d ∈ ds ∧ 0 ≤ g' ∧ 0 ≤ s' := by
  obtain ⟨r, g', s', h, r0, r1, hg', hs'⟩ := take_ok g s ds.length hg hs (by omega) (by omega)
  have hr : r.toNat < ds.length := by omega
  refine ⟨ds[r.toNat], g', s', ?_, List.getElem_mem hr, hg', hs'⟩
  simp [f_law_pick, DL.run, b_law_pick, sSeq, sNext, sRet, sIf, sFor, sSet, sSetD, sSetIx, dTst, dTru, dOp, dUn, dVar, dC, dCB, vCons, vNil, aCons, aNil, dLst, dTup, dCall0, dCall1, dMkE, dIsiE, lookD, Sl.look, lookS, putS, lookAll, frz, Out.bind, boolD, truD, gAdd, gMinus, gMul, gFdiv, gMod, gPow, gCmpI, gIx, gLen, gAbs, gInt, gStrI, atI, ixN, Res.vl, fin, dB, dOr, dAnd, dNot, dIf, tOr', tAnd', tNot', dIt, dItR, dRng1, DL.inR, gSet, sizeLine_eq, scrD, h, r0, r1, hr]
def ones (v : D) : List D := [errD "InvalidNumber" [("value", v)], errD "InvalidGroups" [("value", v)], errD "InvalidGroup" [("value", v)], errD "InvalidRanks" [("value", v)], errD "InvalidValues" [("value", v)], errD "InvalidOrders" [("value", v)], errD "InvalidLot" [("value", v)], errD "InvalidMembers" [("value", v)], errD "InvalidTree" [("value", v)], errD "InvalidKind" [("value", v)], errD "InvalidQuestion" [("value", v)], errD "InvalidClaim" [("value", v)]]
theorem ones_ok (v : D) : f_law_ones [.dat v] = .ret (.own (ones v)) [.dat v] := by
  simp [f_law_ones, DL.run, b_law_ones, ones, sSeq, sNext, sRet, sIf, sFor, sSet, sSetD, sSetIx, dTst, dTru, dOp, dUn, dVar, dC, dCB, vCons, vNil, aCons, aNil, dLst, dTup, dCall0, dCall1, dMkE, dIsiE, lookD, Sl.look, lookS, putS, lookAll, frz, Out.bind, boolD, truD, gAdd, gMinus, gMul, gFdiv, gMod, gPow, gCmpI, gIx, gLen, gAbs, gInt, gStrI, atI, ixN, Res.vl, fin, dB, dOr, dAnd, dNot, dIf, tOr', tAnd', tNot', dIt, dItR, dRng1, DL.inR, gSet, sizeLine_eq, scrD]
def kindsD (c : Str) : List D := [.bool (sb "InvalidNumber" c), .bool (sb "InvalidGroups" c), .bool (sb "InvalidGroup" c), .bool (sb "InvalidRanks" c), .bool (sb "InvalidValues" c), .bool (sb "InvalidOrders" c), .bool (sb "InvalidLot" c), .bool (sb "InvalidMembers" c), .bool (sb "InvalidTree" c), .bool (sb "InvalidKind" c), .bool (sb "InvalidQuestion" c), .bool (sb "InvalidClaim" c), .bool (sb "InvalidText" c), .bool (sb "Undefined" c), .bool (sb "NothingToUndo" c), .bool (sb "GroupError" c), .bool true]
theorem cls_err {c : Str} {fs : List (Str × D)} (h : known.contains c = true) : clsOf known (errD c fs) = some c := if_pos h
theorem kinds_ok (c : Str) (fs : List (Str × D)) (h : known.contains c = true) : f_law_kinds [.dat (errD c fs)] = .ret (.own (kindsD c)) [.dat (errD c fs)] := by
  have e := cls_err (fs := fs) h
  simp [f_law_kinds, DL.run, b_law_kinds, b_law_kinds_1, b_law_kinds_2, b_law_kinds_3, b_law_kinds_4, kindsD, sSeq, sNext, sRet, sIf, sFor, sSet, sSetD, sSetIx, dTst, dTru, dOp, dUn, dVar, dC, dCB, vCons, vNil, aCons, aNil, dLst, dTup, dCall0, dCall1, dMkE, dIsiE, lookD, Sl.look, lookS, putS, lookAll, frz, Out.bind, boolD, truD, gAdd, gMinus, gMul, gFdiv, gMod, gPow, gCmpI, gIx, gLen, gAbs, gInt, gStrI, atI, ixN, Res.vl, fin, dB, dOr, dAnd, dNot, dIf, tOr', tAnd', tNot', dIt, dItR, dRng1, DL.inR, gSet, sizeLine_eq, scrD, e]
end K1
end
section
set_option Elab.async false
set_option linter.all false
set_option maxRecDepth 100000
set_option maxHeartbeats 0
namespace K1
open PySem PySem.Spec PyProof.Rows L2 DL
def all15 (v w : D) : List D := ones v ++ [errD "InvalidText" [("at", w), ("text", v)], errD "Undefined" [("what", v)], errD "NothingToUndo" [("word", v)]]
theorem loop_ok (a b c d v w : Sl) (v' w' : D) (o t x y : Sl) : b_law_12 [a, b, c, d, v, .dat (.list (all15 v' w')), o, t, x, y, .non, .non] = .rt (.sl (.dat (.bool true))) [a, b, c, d, v, .dat (.list (all15 v' w')), o, t, x, y, .dat (.int 14), .non] := by
  kernel_rfl
end K1
end
section
set_option Elab.async false
set_option linter.all false
set_option maxRecDepth 100000
set_option maxHeartbeats 0
namespace K1
open PySem PySem.Spec PyProof.Rows L2 DL
theorem tail_ok (a b c : Sl) (v w : D) (hv : gNe v v = some (.d (.bool false))) (hw : gNe w w = some (.d (.bool false))) : ∃ ρ, b_law_5 [a, b, c, .dat v, .dat w, .non, .non, .non, .non, .non, .non, .non] = .rt (.sl (.dat (.bool true))) (a :: ρ) := by
  have h := loop_ok a b c (.dat v) (.dat w) .non v w (.dat (errD "InvalidClaim" [("value", v)])) (.dat (errD "InvalidText" [("at", w), ("text", v)])) (.dat (errD "Undefined" [("what", v)])) (.dat (errD "NothingToUndo" [("word", v)]))
  have lk : List.lookup ("text" : Str) [(("at" : Str), w), ("text", v)] = some v := rfl
  refine ⟨_, Eq.trans ?_ h⟩
  simp [b_law_5, b_law_6, b_law_7, b_law_8, b_law_9, b_law_10, b_law_11, sSeq, sNext, sRet, sIf, sFor, sSet, sSetD, sSetIx, dTst, dTru, dOp, dUn, dVar, dC, dCB, vCons, vNil, aCons, aNil, dLst, dTup, dCall0, dCall1, dMkE, dIsiE, lookD, Sl.look, lookS, putS, lookAll, frz, Out.bind, boolD, truD, gAdd, gMinus, gMul, gFdiv, gMod, gPow, gCmpI, gIx, gLen, gAbs, gInt, gStrI, atI, ixN, Res.vl, fin, dB, dOr, dAnd, dNot, dIf, tOr', tAnd', tNot', dIt, dItR, dRng1, DL.inR, gSet, sizeLine_eq, scrD, ones_ok, ones, all15, forL, seqD, gFldE, efld_err, hv, hw, lk]
theorem gNe_self {d : D} (h1 : d.plain = true) (h2 : d.depth ≤ 60) : gNe d d = some (.d (.bool false)) := by
  have e : PyData.eqv d d = true := PySem.SeqAt.eqv_refl_plain d h1
  have f : fit d d = true := by simp [fit, h1, h2]
  simp [gNe, f, e]
theorem small_str {r : Int} (h0 : 0 ≤ r) (h1 : r < 99) : r.natAbs.log2 < 1920 ∧ (Str.ofString (toString r)).length ≤ 1000 := by
  have key : ∀ n : Fin 99, (n.val : Int).natAbs.log2 < 1920 ∧ (Str.ofString (toString (n.val : Int))).length ≤ 1000 := by decide +kernel
  obtain ⟨n, rfl⟩ : ∃ n : Nat, r = n := ⟨r.toNat, by omega⟩
  exact key ⟨n, by omega⟩
/-- what v and w are drawn from -/
theorem law_ok (ns : List Int) : ∃ outs, f_law [.dat (scr ns)] = .ret (.dat (.bool true)) outs := by
  obtain ⟨g0, s0, h0, g0p, s0p⟩ := box0_ok ns
  obtain ⟨r1, g1, s1, h1, r1a, r1b, g1p, s1p⟩ := take_ok g0 s0 1000000 g0p s0p (by decide) (by decide)
  obtain ⟨r2, g2, s2, h2, r2a, r2b, g2p, s2p⟩ := take_ok g1 s1 99 g1p s1p (by decide) (by decide)
  obtain ⟨r3, g3, s3, h3, r3a, r3b, g3p, s3p⟩ := take_ok g2 s2 9 g2p s2p (by decide) (by decide)
  obtain ⟨r4, g4, s4, h4, r4a, r4b, g4p, s4p⟩ := take_ok g3 s3 9 g3p s3p (by decide) (by decide)
  obtain ⟨l1, l2⟩ := small_str r2a r2b
  have l3 : ("text " : Str).length + (Str.ofString (toString r2)).length ≤ 16777216 := by
    have : ("text " : Str).length = 5 := by decide +kernel
    omega
  have l4 : (Str.ofString "text ").length + (Str.ofString r2.repr).length ≤ 16777216 := l3
  let ds : List D := [.int (r1 - 500000), .str (("text " : Str) ++ Str.ofString (toString r2)), .tuple [.int 1, .int r3], .list [.int r4], .none, .bool true, .tuple []]
  obtain ⟨v, g5, s5, h5, hv, g5p, s5p⟩ := pick_ok g4 s4 ds g4p s4p (by simp [ds]) (by simp [ds])
  obtain ⟨w, g6, s6, h6, hw, g6p, s6p⟩ := pick_ok g5 s5 ds g5p s5p (by simp [ds]) (by simp [ds])
  have good : ∀ d ∈ ds, gNe d d = some (.d (.bool false)) := by
    intro d hd
    simp only [ds, List.mem_cons, List.not_mem_nil, or_false] at hd
    rcases hd with rfl | rfl | rfl | rfl | rfl | rfl | rfl <;> exact gNe_self rfl (by simp [PyData.depth, PyData.depthAll])
  obtain ⟨ρ, ht⟩ := tail_ok (.dat (scr ns)) (bx g6 s6) (.dat (.list ds)) v w (good v hv) (good w hw)
  refine ⟨[.dat (scr ns)], ?_⟩
  have e1 : b_law_3 [.dat (scr ns), bx g4 s4, .dat (.list ds), .non, .non, .non, .non, .non, .non, .non, .non, .non] = .rt (.sl (.dat (.bool true))) (.dat (scr ns) :: ρ) := by
    rw [← ht]
    simp [b_law_3, b_law_4, sSeq, sNext, sRet, sIf, sFor, sSet, sSetD, sSetIx, dTst, dTru, dOp, dUn, dVar, dC, dCB, vCons, vNil, aCons, aNil, dLst, dTup, dCall0, dCall1, dMkE, dIsiE, lookD, Sl.look, lookS, putS, lookAll, frz, Out.bind, boolD, truD, gAdd, gMinus, gMul, gFdiv, gMod, gPow, gCmpI, gIx, gLen, gAbs, gInt, gStrI, atI, ixN, Res.vl, fin, dB, dOr, dAnd, dNot, dIf, tOr', tAnd', tNot', dIt, dItR, dRng1, DL.inR, gSet, sizeLine_eq, scrD, h5, h6]
  have e2 : b_law [.dat (scr ns), .non, .non, .non, .non, .non, .non, .non, .non, .non, .non, .non] = .rt (.sl (.dat (.bool true))) (.dat (scr ns) :: ρ) := by
    rw [← e1]
    simp [b_law, b_law_1, b_law_2, sSeq, sNext, sRet, sIf, sFor, sSet, sSetD, sSetIx, dTst, dTru, dOp, dUn, dVar, dC, dCB, vCons, vNil, aCons, aNil, dLst, dTup, dCall0, dCall1, dMkE, dIsiE, lookD, Sl.look, lookS, putS, lookAll, frz, Out.bind, boolD, truD, gAdd, gMinus, gMul, gFdiv, gMod, gPow, gCmpI, gIx, gLen, gAbs, gInt, gStrI, atI, ixN, Res.vl, fin, dB, dOr, dAnd, dNot, dIf, tOr', tAnd', tNot', dIt, dItR, dRng1, DL.inR, gSet, sizeLine_eq, h0, h1, h2, h3, h4, l1, l4, ds]
  show fin 1 (b_law [.dat (scr ns), .non, .non, .non, .non, .non, .non, .non, .non, .non, .non, .non]) = _
  rw [e2]
  rfl
end K1
end
section
set_option Elab.async false
set_option linter.all false
set_option maxRecDepth 100000
set_option maxHeartbeats 0
namespace K1
open PySem PySem.Spec PyProof.Rows L2 DL
theorem facts {P : Program} {w : World} {K : PySem.W.Frag} {h : Heap} {mg : Str → Option Value} {f : Addr} (X : K.In h) (G : h.Ns mainGlobals mg) (hfa : mg ("law" : Str) = some (.ref f)) (c : SaysF fa fn ex K) :
    ∃ fd : FuncData, (∀ (s : Shared) (v : Value), BindsTo s fd ⟨[v], []⟩ [("script", v)]) ∧ ∀ base : Heap, K.In base → base.Ns mainGlobals mg → FnOk P w K mg base (L2.CX P w) 4 f fd ["script"] (spF K (ct K) 1 f_law) := by
  obtain ⟨d0, F0, G0⟩ := fun_of c 0 (x := "_law_box") (qual := "_law_box") (c := ("_law_box", none)) (st := s_law_box) rfl
  obtain ⟨d1, F1, G1⟩ := fun_of c 1 (x := "_law_take") (qual := "_law_take") (c := ("_law_take", none)) (st := s_law_take) rfl
  obtain ⟨d2, F2, G2⟩ := fun_of c 2 (x := "_law_pick") (qual := "_law_pick") (c := ("_law_pick", none)) (st := s_law_pick) rfl
  obtain ⟨d3, F3, G3⟩ := fun_of c 3 (x := "_law_ones") (qual := "_law_ones") (c := ("_law_ones", none)) (st := s_law_ones) rfl
  obtain ⟨d4, F4, G4⟩ := fun_of c 4 (x := "_law_kinds") (qual := "_law_kinds") (c := ("_law_kinds", none)) (st := s_law_kinds) rfl
  obtain ⟨d5, F5, G5⟩ := fun_of c 5 (x := "law") (qual := "law") (c := ("law", none)) (st := s_law) rfl
  obtain ⟨d6, F6, G6⟩ := fun_of c 6 (x := "__init__") (qual := "InvalidNumber.__init__") (c := ("InvalidNumber", some "__init__")) (st := s_InvalidNumber) rfl
  obtain ⟨d7, F7, G7⟩ := fun_of c 7 (x := "__init__") (qual := "InvalidGroups.__init__") (c := ("InvalidGroups", some "__init__")) (st := s_InvalidGroups) rfl
  obtain ⟨d8, F8, G8⟩ := fun_of c 8 (x := "__init__") (qual := "InvalidGroup.__init__") (c := ("InvalidGroup", some "__init__")) (st := s_InvalidGroup) rfl
  obtain ⟨d9, F9, G9⟩ := fun_of c 9 (x := "__init__") (qual := "InvalidRanks.__init__") (c := ("InvalidRanks", some "__init__")) (st := s_InvalidRanks) rfl
  obtain ⟨d10, F10, G10⟩ := fun_of c 10 (x := "__init__") (qual := "InvalidValues.__init__") (c := ("InvalidValues", some "__init__")) (st := s_InvalidValues) rfl
  obtain ⟨d11, F11, G11⟩ := fun_of c 11 (x := "__init__") (qual := "InvalidOrders.__init__") (c := ("InvalidOrders", some "__init__")) (st := s_InvalidOrders) rfl
  obtain ⟨d12, F12, G12⟩ := fun_of c 12 (x := "__init__") (qual := "InvalidText.__init__") (c := ("InvalidText", some "__init__")) (st := s_InvalidText) rfl
  obtain ⟨d13, F13, G13⟩ := fun_of c 13 (x := "__init__") (qual := "InvalidLot.__init__") (c := ("InvalidLot", some "__init__")) (st := s_InvalidLot) rfl
  obtain ⟨d14, F14, G14⟩ := fun_of c 14 (x := "__init__") (qual := "InvalidMembers.__init__") (c := ("InvalidMembers", some "__init__")) (st := s_InvalidMembers) rfl
  obtain ⟨d15, F15, G15⟩ := fun_of c 15 (x := "__init__") (qual := "InvalidTree.__init__") (c := ("InvalidTree", some "__init__")) (st := s_InvalidTree) rfl
  obtain ⟨d16, F16, G16⟩ := fun_of c 16 (x := "__init__") (qual := "InvalidKind.__init__") (c := ("InvalidKind", some "__init__")) (st := s_InvalidKind) rfl
  obtain ⟨d17, F17, G17⟩ := fun_of c 17 (x := "__init__") (qual := "InvalidQuestion.__init__") (c := ("InvalidQuestion", some "__init__")) (st := s_InvalidQuestion) rfl
  obtain ⟨d18, F18, G18⟩ := fun_of c 18 (x := "__init__") (qual := "InvalidClaim.__init__") (c := ("InvalidClaim", some "__init__")) (st := s_InvalidClaim) rfl
  obtain ⟨d19, F19, G19⟩ := fun_of c 19 (x := "__init__") (qual := "Undefined.__init__") (c := ("Undefined", some "__init__")) (st := s_Undefined) rfl
  obtain ⟨d20, F20, G20⟩ := fun_of c 20 (x := "__init__") (qual := "NothingToUndo.__init__") (c := ("NothingToUndo", some "__init__")) (st := s_NothingToUndo) rfl
  have e := hfa.symm.trans (He.glo_ok X G (c.d.fact 5 (f := .glo "law") rfl))
  cases e
  have T : Tx K mg := ⟨d0, F0, (G0.bindsN fun _ _ _ _ _ _ us hl => match us, hl with | [_, _], _ => rfl), 
    (He.glo_ok X G (c.d.fact 0 (f := .glo "_law_box") rfl)), d1, F1, (G1.bindsN fun _ _ _ _ _ _ us hl => match us, hl with | [_, _], _ => rfl), 
    (He.glo_ok X G (c.d.fact 1 (f := .glo "_law_take") rfl)), d2, F2, (G2.bindsN fun _ _ _ _ _ _ us hl => match us, hl with | [_, _], _ => rfl), 
    (He.glo_ok X G (c.d.fact 2 (f := .glo "_law_pick") rfl)), d3, F3, (G3.bindsN fun _ _ _ _ _ _ us hl => match us, hl with | [_], _ => rfl), 
    (He.glo_ok X G (c.d.fact 3 (f := .glo "_law_ones") rfl)), d4, F4, (G4.bindsN fun _ _ _ _ _ _ us hl => match us, hl with | [_], _ => rfl), 
    (He.glo_ok X G (c.d.fact 4 (f := .glo "_law_kinds") rfl)), d5, F5, (G5.bindsN fun _ _ _ _ _ _ us hl => match us, hl with | [_], _ => rfl), 
    (He.glo_ok X G (c.d.fact 5 (f := .glo "law") rfl)), d6, F6, (G6.bindsN fun _ _ _ _ _ _ us hl => match us, hl with | [_, _], _ => rfl), 
    (He.glo_ok X G (c.d.fact 6 (f := .glo "InvalidNumber") rfl)), (errB_ok (List.all_eq_true.mp (Bool.and_eq_true_iff.mp c.e).1 ("InvalidNumber", ["value"]) (by decide))), d7, F7, (G7.bindsN fun _ _ _ _ _ _ us hl => match us, hl with | [_, _], _ => rfl), 
    (He.glo_ok X G (c.d.fact 7 (f := .glo "InvalidGroups") rfl)), (errB_ok (List.all_eq_true.mp (Bool.and_eq_true_iff.mp c.e).1 ("InvalidGroups", ["value"]) (by decide))), d8, F8, (G8.bindsN fun _ _ _ _ _ _ us hl => match us, hl with | [_, _], _ => rfl), 
    (He.glo_ok X G (c.d.fact 8 (f := .glo "InvalidGroup") rfl)), (errB_ok (List.all_eq_true.mp (Bool.and_eq_true_iff.mp c.e).1 ("InvalidGroup", ["value"]) (by decide))), d9, F9, (G9.bindsN fun _ _ _ _ _ _ us hl => match us, hl with | [_, _], _ => rfl), 
    (He.glo_ok X G (c.d.fact 9 (f := .glo "InvalidRanks") rfl)), (errB_ok (List.all_eq_true.mp (Bool.and_eq_true_iff.mp c.e).1 ("InvalidRanks", ["value"]) (by decide))), d10, F10, (G10.bindsN fun _ _ _ _ _ _ us hl => match us, hl with | [_, _], _ => rfl), 
    (He.glo_ok X G (c.d.fact 10 (f := .glo "InvalidValues") rfl)), (errB_ok (List.all_eq_true.mp (Bool.and_eq_true_iff.mp c.e).1 ("InvalidValues", ["value"]) (by decide))), d11, F11, (G11.bindsN fun _ _ _ _ _ _ us hl => match us, hl with | [_, _], _ => rfl), 
    (He.glo_ok X G (c.d.fact 11 (f := .glo "InvalidOrders") rfl)), (errB_ok (List.all_eq_true.mp (Bool.and_eq_true_iff.mp c.e).1 ("InvalidOrders", ["value"]) (by decide))), d12, F12, (G12.bindsN fun _ _ _ _ _ _ us hl => match us, hl with | [_, _, _], _ => rfl), 
    (He.glo_ok X G (c.d.fact 12 (f := .glo "InvalidText") rfl)), (errB_ok (List.all_eq_true.mp (Bool.and_eq_true_iff.mp c.e).1 ("InvalidText", ["text", "at"]) (by decide))), d13, F13, (G13.bindsN fun _ _ _ _ _ _ us hl => match us, hl with | [_, _], _ => rfl), 
    (He.glo_ok X G (c.d.fact 13 (f := .glo "InvalidLot") rfl)), (errB_ok (List.all_eq_true.mp (Bool.and_eq_true_iff.mp c.e).1 ("InvalidLot", ["value"]) (by decide))), d14, F14, (G14.bindsN fun _ _ _ _ _ _ us hl => match us, hl with | [_, _], _ => rfl), 
    (He.glo_ok X G (c.d.fact 14 (f := .glo "InvalidMembers") rfl)), (errB_ok (List.all_eq_true.mp (Bool.and_eq_true_iff.mp c.e).1 ("InvalidMembers", ["value"]) (by decide))), d15, F15, (G15.bindsN fun _ _ _ _ _ _ us hl => match us, hl with | [_, _], _ => rfl), 
    (He.glo_ok X G (c.d.fact 15 (f := .glo "InvalidTree") rfl)), (errB_ok (List.all_eq_true.mp (Bool.and_eq_true_iff.mp c.e).1 ("InvalidTree", ["value"]) (by decide))), d16, F16, (G16.bindsN fun _ _ _ _ _ _ us hl => match us, hl with | [_, _], _ => rfl), 
    (He.glo_ok X G (c.d.fact 16 (f := .glo "InvalidKind") rfl)), (errB_ok (List.all_eq_true.mp (Bool.and_eq_true_iff.mp c.e).1 ("InvalidKind", ["value"]) (by decide))), d17, F17, (G17.bindsN fun _ _ _ _ _ _ us hl => match us, hl with | [_, _], _ => rfl), 
    (He.glo_ok X G (c.d.fact 17 (f := .glo "InvalidQuestion") rfl)), (errB_ok (List.all_eq_true.mp (Bool.and_eq_true_iff.mp c.e).1 ("InvalidQuestion", ["value"]) (by decide))), d18, F18, (G18.bindsN fun _ _ _ _ _ _ us hl => match us, hl with | [_, _], _ => rfl), 
    (He.glo_ok X G (c.d.fact 18 (f := .glo "InvalidClaim") rfl)), (errB_ok (List.all_eq_true.mp (Bool.and_eq_true_iff.mp c.e).1 ("InvalidClaim", ["value"]) (by decide))), d19, F19, (G19.bindsN fun _ _ _ _ _ _ us hl => match us, hl with | [_, _], _ => rfl), 
    (He.glo_ok X G (c.d.fact 19 (f := .glo "Undefined") rfl)), (errB_ok (List.all_eq_true.mp (Bool.and_eq_true_iff.mp c.e).1 ("Undefined", ["what"]) (by decide))), d20, F20, (G20.bindsN fun _ _ _ _ _ _ us hl => match us, hl with | [_, _], _ => rfl), 
    (He.glo_ok X G (c.d.fact 20 (f := .glo "NothingToUndo") rfl)), (errB_ok (List.all_eq_true.mp (Bool.and_eq_true_iff.mp c.e).1 ("NothingToUndo", ["word"]) (by decide))), 
    (He.glo_ok X G (c.d.fact 21 (f := .glo "GroupError") rfl)), 
    (He.free_ok X G (c.d.fact 22 (f := .free "abs") rfl)), 
    (He.free_ok X G (c.d.fact 23 (f := .free "len") rfl)), 
    (He.free_ok X G (c.d.fact 24 (f := .free "int") rfl)), 
    (He.free_ok X G (c.d.fact 25 (f := .free "str") rfl)), 
    (He.free_ok X G (c.d.fact 26 (f := .free "isinstance") rfl)), 
    (He.free_ok X G (c.d.fact 27 (f := .free "range") rfl)), 
    (He.free_ok X G (c.d.fact 28 (f := .free "ValueError") rfl)), c.e⟩
  exact ⟨T.d_law, fun s v => by
    have b := T.F_law.ex
    obtain ⟨oc, od, kV, doc, pm, an, cdv, ct, osl, e, lk, hc⟩ := b
    rw [e]
    exact .of_eq rfl, fun base _ _ => ok_law T 0⟩
end K1
open PySem PySem.W PySem.Calls PyProof.Rows
theorem PySem.Challenge.cw_calmgroups_k01_errors_holds : PySem.Challenge.rw_calmgroups_k01_errors.Holds := by
  w_on; o_law
  refine HandSHeadRun.head_any (r := K1.R) (q := view K1.R.prog [23]) (H := K1.hk) (ob := K1.ob) (M := 60000) (loose := K1.names) (d := HandSHeadRun.topDef K1.R.prog 23) (kwd := []) K1.ob_eq
    (by kernel_rfl) (fun s => by kernel_rfl) K1.run (by kernel_rfl) (by kernel_rfl) (by kernel_rfl) (by rfl) (by first | assumption | decide +kernel) (by decide +kernel) ⟨rfl, rfl, rfl, rfl, rfl, by decide +kernel⟩ ?hw ?hc
  case hw => w_witness2
  case hc =>
    refine DL.end_law (l := PySem.Challenge.rw_calmgroups_k01_errors) (n := 63) (k := 4) (x := "script") rfl (by decide) (by kernel_rfl) ⟨rfl, by decide, by decide⟩ ?F
    intro w mg f h Y G hmg0
    obtain ⟨K, KX, c⟩ := Y
    have hmg : mg ("law" : PySem.Str) = some (.ref f) := by
      have e : (HandSHeadRun.topDef K1.R.prog 23).name = ("law" : PySem.Str) := by kernel_rfl
      rw [← e]
      exact hmg0
    obtain ⟨fd, hb, hF⟩ := K1.facts (P := (PySem.Challenge.rw_calmgroups_k01_errors).prog) (w := w) KX G hmg c
    exact ⟨K, K1.ct K, fd, K1.f_law, KX, hb, fun ns => K1.law_ok ns, hF⟩
end

import PyProof.Rows.All
import Wide.All
import OpenK.AllK
import Wide.FinOn
import HandS.ForMost
import HandS.ForExc
import HandS.EndTab
import HandS.IsInst
import HandS.Flow
import HandS.StrMore
import HandS.TupAny
import HandS.CallSlots
import HandS.Style
import HandS.ExcIs
import KE.KDflt
import HandS.HeadHook4
import HandS.HeadWalk
import HandS.Head0
import HandS.Head1
import HandS.Head2
import PyProof.StrLawsLast
import HandS.Deep
import HandS.Dict
import HandS.Conv
import HandS.TupMul
import HandS.More
import HandS.Iter
import HandS.DictComp
import KE.GoesMore
import KE.GoesEnum
import KE.KTupSum
import HandS.SetFor
import HandS.TupSets
import PySem.Challenge.RW_keptanyhow_k06_whole_changes_found
section
set_option Elab.async false
set_option Elab.async false
set_option linter.all false
set_option maxRecDepth 100000
namespace Mn
open PySem L2

/-- data: what a value is, tuples and read-only lists told whole, other objects by a handle -/
inductive D where
  | non | bl (b : Bool) | int (i : Int) | str (s : Str) | tup (ds : List D) | rol (ds : List D) | ref (n : Nat) | clo (k : Nat) | raw (a : Nat)
mutual
def D.same : D → D → Bool
  | .non, .non => true
  | .bl a, .bl b => a == b
  | .int a, .int b => a == b
  | .str a, .str b => decide (a = b)
  | .tup a, .tup b => D.sameL a b
  | .rol a, .rol b => D.sameL a b
  | .ref a, .ref b => a == b
  | .clo a, .clo b => a == b
  | .raw a, .raw b => a == b
  | _, _ => false
def D.sameL : List D → List D → Bool
  | [], [] => true
  | a :: r, b :: q => D.same a b && D.sameL r q
  | _, _ => false
end
mutual
theorem D.same_eq : ∀ (a b : D), D.same a b = true → a = b
  | .non, b, h => by cases b <;> simp [D.same] at h <;> rfl
  | .bl a, b, h => by cases b <;> simp [D.same] at h <;> rw [h]
  | .int a, b, h => by cases b <;> simp [D.same] at h <;> rw [h]
  | .str a, b, h => by cases b <;> simp [D.same] at h <;> rw [h]
  | .tup a, b, h => by
    cases b <;> simp [D.same] at h
    rw [D.sameL_eq a _ h]
  | .rol a, b, h => by
    cases b <;> simp [D.same] at h
    rw [D.sameL_eq a _ h]
  | .ref a, b, h => by cases b <;> simp [D.same] at h <;> rw [h]
  | .clo a, b, h => by cases b <;> simp [D.same] at h <;> rw [h]
  | .raw a, b, h => by cases b <;> simp [D.same] at h <;> rw [h]
theorem D.sameL_eq : ∀ (a b : List D), D.sameL a b = true → a = b
  | [], b, h => by cases b <;> simp [D.sameL] at h <;> rfl
  | x :: r, b, h => by
    cases b with
    | nil => simp [D.sameL] at h
    | cons y q =>
      simp [D.sameL] at h
      rw [D.same_eq x y h.1, D.sameL_eq r q h.2]
end
mutual
theorem D.same_refl : ∀ (a : D), D.same a a = true
  | .non => rfl
  | .bl a => by simp [D.same]
  | .int a => by simp [D.same]
  | .str a => by simp [D.same]
  | .tup a => by simp [D.same, D.sameL_refl a]
  | .rol a => by simp [D.same, D.sameL_refl a]
  | .ref a => by simp [D.same]
  | .clo a => by simp [D.same]
  | .raw a => by simp [D.same]
theorem D.sameL_refl : ∀ (a : List D), D.sameL a a = true
  | [] => rfl
  | x :: r => by simp [D.sameL, D.same_refl x, D.sameL_refl r]
end
instance : DecidableEq D := fun a b => if h : D.same a b = true then isTrue (D.same_eq a b h) else isFalse fun e => h (by rw [e]; exact D.same_refl b)

inductive Obj where
  | lst (ds : List D)
  | dic (ks : List Key) (ds : List D)
  deriving DecidableEq

abbrev Mem := List Obj
abbrev Env := List (Option D)
structure Exc where
  cls : Str
  fs : List (Str × D)
inductive Res (α : Type) where
  | ok (a : α) (m : Mem)
  | ex (e : Exc) (m : Mem)
  | bad
def Res.bind {α β : Type} (r : Res α) (k : α → Mem → Res β) : Res β := match r with
  | .ok a m => k a m
  | .ex e m => .ex e m
  | .bad => .bad

/-- what a step keeps -/
structure KpT (T : List (Addr × Str)) (H : Hp) (L : List Addr) (H' : Hp) (L' : List Addr) : Prop where
  pre : ∃ M, L' = L ++ M
  keep : ∀ a o, a ∉ L → H a = some o → (∀ ps, o ≠ .tbl ps) → H' a = some o
  tbls : ∀ a ps, H a = some (.tbl ps) → ∃ qs, H' a = some (.tbl qs)
  new : ∀ a, a ∈ L' → a ∉ L → H a = none
  tabs : LamX.Tabs T H → LamX.Tabs T H'
/-- the lambdas of one def: what is known of each (its object, its code object, the tuple of its defaults), their name, the tables of code objects, what a step keeps besides -/
class Clo where
  P : Nat → Addr → Addr → Addr → (Heap → Prop) → Prop
  dv : Nat → Option (List V)
  q : Str
  T : List (Addr × Str)
  J : Hp → List Addr → Prop
  jm : ∀ H L H' L', KpT T H L H' L' → J H L → J H' L'
/-! ### a value is data -/
/-- a tuple, a list that is only read: outside the handles -/
def FzT (K : PySem.W.Frag) (L : List Addr) (H : Hp) (a : Addr) (vs : List V) : Prop :=
  (Rd H a (.tup vs) ∧ a ∉ L) ∨ ∃ (o : PySem.Obj) (its : Array Value) (n : Nat), K.lookup a = some o ∧ o.cls = .type "tuple" ∧ o.data = .seq its n ∧ its.size ≤ sizeLine ∧ Vals vs its.toList
def FzL (K : PySem.W.Frag) (L : List Addr) (H : Hp) (a : Addr) (vs : List V) : Prop :=
  (Rd H a (.lst vs) ∧ a ∉ L) ∨ ∃ (o : PySem.Obj) (its : Array Value) (n : Nat), K.lookup a = some o ∧ o.cls = .type "list" ∧ o.dict = none ∧ o.data = .seq its n ∧ its.size ≤ sizeLine ∧ Vals vs its.toList
def IsClo [Clo] (L : List Addr) (H : Hp) (k : Nat) (v : V) : Prop := ∃ (a c t : Addr) (φ : Heap → Prop), v = .ref a ∧ H a = some (.ext φ) ∧ a ∉ L ∧ H c = some (LamX.CodeO c Clo.q) ∧ c ∉ L ∧ (∀ vs, Clo.dv k = some vs → H t = some (.tup vs) ∧ t ∉ L) ∧ Clo.P k a c t φ
section
variable [Clo]
mutual
def Is (K : PySem.W.Frag) (L : List Addr) (H : Hp) : D → V → Prop
  | .non, v => v = .non
  | .bl b, v => v = .bl b
  | .int i, v => v = .int i
  | .str s, v => v = .str s
  | .tup ds, v => ∃ a vs, v = .ref a ∧ FzT K L H a vs ∧ IsL K L H ds vs
  | .rol ds, v => ∃ a vs, v = .ref a ∧ FzL K L H a vs ∧ IsL K L H ds vs
  | .ref n, v => ∃ a, L[n]? = some a ∧ v = .ref a
  | .clo k, v => IsClo L H k v
  | .raw a, v => v = .ref a
def IsL (K : PySem.W.Frag) (L : List Addr) (H : Hp) : List D → List V → Prop
  | [], vs => vs = []
  | d :: ds, vs => ∃ v r, vs = v :: r ∧ Is K L H d v ∧ IsL K L H ds r
end

def OIs (K : PySem.W.Frag) (L : List Addr) (H : Hp) (a : Addr) : Obj → Prop
  | .lst ds => ∃ vs, H a = some (.lst vs) ∧ IsL K L H ds vs
  | .dic ks ds => ∃ kvs : List (Key × V), H a = some (.dK kvs) ∧ kvs.map (·.1) = ks ∧ IsL K L H ds (kvs.map (·.2))

structure Rep (K : PySem.W.Frag) (H : Hp) (L : List Addr) (m : Mem) : Prop where
  len : L.length = m.length
  nd : L.Nodup
  ob : ∀ (n : Nat) (a : Addr) (o : Obj), L[n]? = some a → m[n]? = some o → OIs K L H a o
  tab : LamX.Tabs Clo.T H
  j : Clo.J H L

abbrev Kp (H : Hp) (L : List Addr) (H' : Hp) (L' : List Addr) : Prop := KpT Clo.T H L H' L'
theorem Kp.refl (H : Hp) (L : List Addr) : Kp H L H L := ⟨⟨[], by simp⟩, fun _ _ _ h _ => h, fun _ ps h => ⟨ps, h⟩, fun _ h n => absurd h n, id⟩
theorem Kp.sub {H L H' L'} (k : Kp H L H' L') {a : Addr} (h : a ∈ L) : a ∈ L' := by
  obtain ⟨M, e⟩ := k.pre
  rw [e]
  exact List.mem_append_left _ h
theorem Kp.at {H L H' L'} (k : Kp H L H' L') {n : Nat} {a : Addr} (h : L[n]? = some a) : L'[n]? = some a := by
  obtain ⟨M, e⟩ := k.pre
  rw [e, List.getElem?_append_left (List.getElem?_eq_some_iff.mp h).1]
  exact h
theorem Kp.out {H L H' L'} (k : Kp H L H' L') {a : Addr} {o : HO} (h : a ∉ L) (e : H a = some o) : a ∉ L' := fun q => by
  have z := k.new a q h
  rw [e] at z
  cases z
theorem Kp.was {H L H' L'} (k : Kp H L H' L') {a : Addr} (h : a ∉ L) (e : H' a = none) : H a = none := by
  cases q : H a with
  | none => rfl
  | some o =>
    by_cases ht : ∃ ps, o = .tbl ps
    · obtain ⟨ps, rfl⟩ := ht
      obtain ⟨qs, z⟩ := k.tbls a ps q
      rw [e] at z
      cases z
    · have z := k.keep a o h q fun ps z => ht ⟨ps, z⟩
      rw [e] at z
      cases z
theorem Kp.trans {H L H1 L1 H2 L2} (k : Kp H L H1 L1) (j : Kp H1 L1 H2 L2) : Kp H L H2 L2 where
  pre := by
    obtain ⟨M, rfl⟩ := k.pre
    obtain ⟨N, rfl⟩ := j.pre
    exact ⟨M ++ N, by rw [List.append_assoc]⟩
  keep := fun a o h e n => j.keep a o (k.out h e) (k.keep a o h e n) n
  tbls := fun a ps e => by
    obtain ⟨qs, e1⟩ := k.tbls a ps e
    exact j.tbls a qs e1
  new := fun a h n => by
    by_cases q : a ∈ L1
    · exact k.new a q n
    · exact k.was n (j.new a h q)
  tabs := fun h => j.tabs (k.tabs h)
theorem Kp.rd {H L H' L'} (k : Kp H L H' L') {a : Addr} {o : HO} (hn : ∀ ps, o ≠ .tbl ps) (hl : a ∉ L) (h : Rd H a o) : Rd H' a o ∧ a ∉ L' := by
  rcases h with h | ⟨u, h⟩
  · exact ⟨.inl (k.keep a o hl h hn), k.out hl h⟩
  · exact ⟨.inr ⟨u, k.keep a _ hl h (fun ps z => by cases z)⟩, k.out hl h⟩
theorem Kp.fzT {K H L H' L'} (k : Kp H L H' L') {a : Addr} {vs : List V} (h : FzT K L H a vs) : FzT K L' H' a vs := by
  rcases h with ⟨h, n⟩ | h
  · exact .inl (k.rd (fun ps z => by cases z) n h)
  · exact .inr h
theorem Kp.fzL {K H L H' L'} (k : Kp H L H' L') {a : Addr} {vs : List V} (h : FzL K L H a vs) : FzL K L' H' a vs := by
  rcases h with ⟨h, n⟩ | h
  · exact .inl (k.rd (fun ps z => by cases z) n h)
  · exact .inr h
theorem Kp.isClo {H L H' L'} (k : Kp H L H' L') {n : Nat} {v : V} (h : IsClo L H n v) : IsClo L' H' n v := by
  obtain ⟨a, c, t, φ, e, e1, n1, e2, n2, ht, hp⟩ := h
  exact ⟨a, c, t, φ, e, k.keep a _ n1 e1 (fun ps z => by cases z), k.out n1 e1, k.keep c _ n2 e2 (fun ps => LamX.codeO_ne ps), k.out n2 e2, fun vs q => ⟨k.keep t _ (ht vs q).2 (ht vs q).1 (fun ps z => by cases z), k.out (ht vs q).2 (ht vs q).1⟩, hp⟩
mutual
theorem Kp.is {K H L H' L'} (k : Kp H L H' L') : ∀ (d : D) {v : V}, Is K L H d v → Is K L' H' d v
  | .non, v, h => h
  | .bl _, v, h => h
  | .int _, v, h => h
  | .str _, v, h => h
  | .tup ds, v, h => by
    obtain ⟨a, vs, e, f, g⟩ := (show ∃ a vs, v = .ref a ∧ FzT K L H a vs ∧ IsL K L H ds vs by simpa only [Is] using h)
    simp only [Is]
    exact ⟨a, vs, e, k.fzT f, Kp.isL k ds g⟩
  | .rol ds, v, h => by
    obtain ⟨a, vs, e, f, g⟩ := (show ∃ a vs, v = .ref a ∧ FzL K L H a vs ∧ IsL K L H ds vs by simpa only [Is] using h)
    simp only [Is]
    exact ⟨a, vs, e, k.fzL f, Kp.isL k ds g⟩
  | .ref n, v, h => by
    obtain ⟨a, e, q⟩ := (show ∃ a, L[n]? = some a ∧ v = .ref a by simpa only [Is] using h)
    simp only [Is]
    exact ⟨a, k.at e, q⟩
  | .clo n, v, h => k.isClo h
  | .raw a, v, h => h
theorem Kp.isL {K H L H' L'} (k : Kp H L H' L') : ∀ (ds : List D) {vs : List V}, IsL K L H ds vs → IsL K L' H' ds vs
  | [], vs, h => h
  | d :: ds, vs, h => by
    obtain ⟨v, r, e, f, g⟩ := (show ∃ v r, vs = v :: r ∧ Is K L H d v ∧ IsL K L H ds r by simpa only [IsL] using h)
    simp only [IsL]
    exact ⟨v, r, e, Kp.is k d f, Kp.isL k ds g⟩
end
end
end Mn
end
section
set_option Elab.async false
set_option Elab.async false
set_option linter.all false
set_option maxRecDepth 100000
set_option maxHeartbeats 2000000
namespace Mn
open PySem L2
variable [Clo]

/-! ### what comes of a step -/
/-- an exception as it lies -/
def ExcIs (K : PySem.W.Frag) (mg : Str → Option Value) (L : List Addr) (H : Hp) (e : Exc) (cls : Value) (dd : Option Addr) : Prop :=
  ∃ C, mg e.cls = some (.ref C) ∧ cls = .ref C ∧
    ((e.fs = [] ∧ dd = none) ∨ ∃ (a : Addr) (fs : List (Str × V)), e.fs ≠ [] ∧ dd = some a ∧ a ∉ L ∧ H a = some (.xd fs) ∧ fs.map (·.1) = e.fs.map (·.1) ∧ IsL K L H (e.fs.map (·.2)) (fs.map (·.2)))
abbrev Rel (α β : Type) := List Addr → Hp → α → β → Prop
section
variable {α β γ δ : Type} (K : PySem.W.Frag) (mg : Str → Option Value)
def Fin (rel : Rel α β) (W : XK) (H : Hp) (L : List Addr) (r : Res α) (Q : β → Hp → Prop) : Prop :=
  match r with
  | .ok a m => ∀ b H' L', Kp H L H' L' → Rep K H' L' m → rel L' H' a b → Q b H'
  | .ex e m => ∀ cls dd H' L', Kp H L H' L' → Rep K H' L' m → ExcIs K mg L' H' e cls dd → W cls dd H'
  | .bad => False
end
section
variable {α β γ δ : Type} {K : PySem.W.Frag} {mg : Str → Option Value} {rel : Rel α β} {rel' : Rel γ δ} {W : XK} {H H' : Hp} {L L' : List Addr} {r : Res α} {k : α → Mem → Res γ} {Q Q1 : β → Hp → Prop} {R : δ → Hp → Prop}
theorem Fin.mono (h : Fin K mg rel W H L r Q) (kp : Kp H L H' L') : Fin K mg rel W H' L' r Q := by
  cases r with
  | ok a m => exact fun b H2 L2 k2 => h b H2 L2 (kp.trans k2)
  | ex e m => exact fun c d H2 L2 k2 => h c d H2 L2 (kp.trans k2)
  | bad => exact h
theorem Fin.imp (h : Fin K mg rel W H L r Q) (q : ∀ b H', Q b H' → Q1 b H') : Fin K mg rel W H L r Q1 := by
  cases r with
  | ok a m => exact fun b H2 L2 k2 r i => q _ _ (h b H2 L2 k2 r i)
  | ex e m => exact h
  | bad => exact h
/-- what follows is shown from where the first part ends -/
theorem Fin.bind (h : Fin K mg rel' W H L (r.bind k) R) :
    Fin K mg rel W H L r fun b H' => ∃ a m L', Kp H L H' L' ∧ Rep K H' L' m ∧ rel L' H' a b ∧ Fin K mg rel' W H' L' (k a m) R := by
  cases r with
  | ok a m => exact fun b H2 L2 k2 rp i => ⟨a, m, L2, k2, rp, i, Fin.mono (r := k a m) h k2⟩
  | ex e m => exact h
  | bad => exact h
theorem Fin.ok {a : α} {m : Mem} {b : β} (h : Fin K mg rel W H L (.ok a m) Q) (rp : Rep K H L m) (i : rel L H a b) : Q b H := h b H L (Kp.refl H L) rp i
end
abbrev relV (K : PySem.W.Frag) : Rel D V := fun L H d v => Is K L H d v
abbrev relA (K : PySem.W.Frag) : Rel (List D) (List V) := fun L H d v => IsL K L H d v
abbrev relB : Rel Bool Bool := fun _ _ a b => b = a
abbrev relO : Rel (Option Int) (Option Int) := fun _ _ a b => b = a

/-! ### slots -/
structure At (K : PySem.W.Frag) (σ : St) (H : Hp) (L : List Addr) (ρ : Env) (m : Mem) : Prop where
  rep : Rep K H L m
  len : σ.length = ρ.length
  sl : ∀ (i : Nat) (d : D), ρ[i]? = some (some d) → ∃ v, σ[i]? = some (some v) ∧ Is K L H d v
section
variable {K : PySem.W.Frag} {σ : St} {H H' : Hp} {L L' : List Addr} {ρ : Env} {m m' : Mem}
theorem At.mono (a : At K σ H L ρ m) (k : Kp H L H' L') (r : Rep K H' L' m') : At K σ H' L' ρ m' :=
  ⟨r, a.len, fun i d e => let ⟨v, h1, h2⟩ := a.sl i d e; ⟨v, h1, k.is _ h2⟩⟩
theorem At.set (a : At K σ H L ρ m) {d : D} {v : V} (i : Nat) (h : Is K L H d v) : At K (σ.set i (some v)) H L (ρ.set i (some d)) m := by
  refine ⟨a.rep, by rw [List.length_set, List.length_set, a.len], fun j x e => ?_⟩
  by_cases q : i = j
  · subst q
    by_cases hi : i < ρ.length
    · rw [List.getElem?_set_self hi] at e
      cases e
      exact ⟨v, List.getElem?_set_self (by rw [a.len]; exact hi), h⟩
    · rw [List.getElem?_eq_none (by rw [List.length_set]; omega)] at e
      cases e
  · rw [List.getElem?_set_ne q] at e
    obtain ⟨u, h1, h2⟩ := a.sl j x e
    exact ⟨u, by rw [List.getElem?_set_ne q]; exact h1, h2⟩
end

/-! ### readings by functions -/
section
variable (K : PySem.W.Frag) (mg : Str → Option Value) (W : WX)
def tE (f : Env → Mem → Res D) : TE := fun σ H Q => ∃ L ρ m, At K σ H L ρ m ∧ Fin K mg (relV K) (fun c d H' => W c d σ H') H L (f ρ m) Q
def tT (f : Env → Mem → Res Bool) : TT := fun σ H Q => ∃ L ρ m, At K σ H L ρ m ∧ Fin K mg relB (fun c d H' => W c d σ H') H L (f ρ m) Q
def tA (f : Env → Mem → Res (List D)) : TA := fun σ H Q => ∃ L ρ m, At K σ H L ρ m ∧ Fin K mg (relA K) (fun c d H' => W c d σ H') H L (f ρ m) Q
def tO (f : Env → Mem → Res (Option Int)) : TO := fun σ H Q => ∃ L ρ m, At K σ H L ρ m ∧ Fin K mg relO (fun c d H' => W c d σ H') H L (f ρ m) Q
end
/-- what comes of a statement -/
inductive Out where
  | nx (ρ : Env) (m : Mem) | rt (d : D) (m : Mem) | bk (ρ : Env) (m : Mem) | ct (ρ : Env) (m : Mem) | ex (e : Exc) (ρ : Env) (m : Mem) | bad
def FinS (K : PySem.W.Frag) (mg : Str → Option Value) (W : WX) (D : Ends) (H : Hp) (L : List Addr) (o : Out) : Prop :=
  match o with
  | .nx ρ m => ∀ σ' H' L', Kp H L H' L' → At K σ' H' L' ρ m → D.nx σ' H'
  | .rt d m => ∀ v H' L', Kp H L H' L' → Rep K H' L' m → Is K L' H' d v → D.rt v H'
  | .bk ρ m => ∀ σ' H' L', Kp H L H' L' → At K σ' H' L' ρ m → D.bk σ' H'
  | .ct ρ m => ∀ σ' H' L', Kp H L H' L' → At K σ' H' L' ρ m → D.ct σ' H'
  | .ex e ρ m => ∀ cls dd σ' H' L', Kp H L H' L' → At K σ' H' L' ρ m → ExcIs K mg L' H' e cls dd → W cls dd σ' H'
  | .bad => False
def tS (K : PySem.W.Frag) (mg : Str → Option Value) (W : WX) (f : Env → Mem → Out) : TS := fun D σ H => ∃ L ρ m, At K σ H L ρ m ∧ FinS K mg W D H L (f ρ m)
section
variable {K : PySem.W.Frag} {mg : Str → Option Value} {W : WX} {D : Ends} {H H' : Hp} {L L' : List Addr} {o : Out}
theorem FinS.mono (h : FinS K mg W D H L o) (kp : Kp H L H' L') : FinS K mg W D H' L' o := by
  cases o with
  | nx ρ m => exact fun s H2 L2 k2 => h s H2 L2 (kp.trans k2)
  | rt d m => exact fun s H2 L2 k2 => h s H2 L2 (kp.trans k2)
  | bk ρ m => exact fun s H2 L2 k2 => h s H2 L2 (kp.trans k2)
  | ct ρ m => exact fun s H2 L2 k2 => h s H2 L2 (kp.trans k2)
  | ex e ρ m => exact fun c d s H2 L2 k2 => h c d s H2 L2 (kp.trans k2)
  | bad => exact h
end

/-! ### judgements, weakened -/
section
variable {X : Cx}
theorem PE.of {e : Expr} {t t' : TE} (h : PE X e t) (w : ∀ σ H Q, t' σ H Q → t σ H Q) : PE X e t' := ⟨fun pins s σ H Q I q => h.run pins s σ H Q I (w σ H Q q)⟩
theorem PT.of {e : Expr} {t t' : TT} (h : PT X e t) (w : ∀ σ H Q, t' σ H Q → t σ H Q) : PT X e t' := ⟨fun pins s σ H Q I q => h.run pins s σ H Q I (w σ H Q q)⟩
theorem PW.of {e : Expr} {t t' : TT} (h : PW X e t) (w : ∀ σ H Q, t' σ H Q → t σ H Q) : PW X e t' := ⟨fun wh pins s σ H Q I q => h.run wh pins s σ H Q I (w σ H Q q)⟩
theorem PA.of {e : List Expr} {t t' : TA} (h : PA X e t) (w : ∀ σ H Q, t' σ H Q → t σ H Q) : PA X e t' := ⟨fun pos pins s σ H Q I q => h.run pos pins s σ H Q I (w σ H Q q)⟩
theorem PS.of {e : Stmt} {t t' : TS} (h : PS X e t) (w : ∀ D σ H, t' D σ H → t D σ H) : PS X e t' := ⟨fun pins s σ H D I q => h.run pins s σ H D I (w D σ H q)⟩
theorem PSs.of {e : List Stmt} {t t' : TS} (h : PSs X e t) (w : ∀ D σ H, t' D σ H → t D σ H) : PSs X e t' := ⟨fun pins s σ H D I q => h.run pins s σ H D I (w D σ H q)⟩
end

/-! ### names and constants -/
section
variable {X : Cx} {W : WX} {e a b c : Expr} {es : List Expr} {f fa fb fc : Env → Mem → Res D} {fs : Env → Mem → Res (List D)} {g gb : Env → Mem → Res Bool} {pos : Pos}
def fVar (i : Nat) : Env → Mem → Res D := fun ρ m => match ρ[i]? with
  | some (some d) => .ok d m
  | _ => .bad
def fC (d : D) : Env → Mem → Res D := fun _ m => .ok d m
theorem var_ok {K : PySem.W.Frag} {mg : Str → Option Value} {i : Nat} {σ : St} {H : Hp} {Q : VK} (h : tE K mg W (fVar i) σ H Q) : tVar i σ H Q := by
  obtain ⟨L, ρ, m, a, h⟩ := h
  unfold fVar at h
  cases q : ρ[i]? with
  | none =>
    rw [q] at h
    exact h.elim
  | some o =>
    cases o with
    | none =>
      rw [q] at h
      exact h.elim
    | some d =>
      rw [q] at h
      obtain ⟨v, h1, h2⟩ := a.sl i d q
      exact ⟨v, h1, h.ok a.rep h2⟩
theorem m_var (i : Nat) {x : Str} {pos : Pos} (hN : X.N[i]? = some x := by rfl) (hv : Vis X.env.scope x := by first | exact Or.inl rfl | exact Or.inr (Or.inl rfl) | exact Or.inr (Or.inr rfl)) (hd : (x == ("__debug__" : Str)) = false := by decide)
    (hcd : (x == ("__classdict__" : Str)) = false := by decide) : PE X (.Name x pos) (tE X.K X.mg W (fVar i)) := PE.of (pe_var hN hv hd hcd) fun _ _ _ h => var_ok h
theorem c_ok {K : PySem.W.Frag} {mg : Str → Option Value} {d : D} {v : V} {σ : St} {H : Hp} {Q : VK} (hv : ∀ L H, Is K L H d v) (h : tE K mg W (fC d) σ H Q) : tC v σ H Q := by
  obtain ⟨L, ρ, m, a, h⟩ := h
  exact Fin.ok (K := K) (mg := mg) (rel := relV K) h a.rep (hv L H)
theorem m_int {i j pos} : PE X (.Constant (.int i) j pos) (tE X.K X.mg W (fC (.int i))) := PE.of pe_int fun _ _ _ h => c_ok (d := .int i) (fun _ _ => rfl) h
theorem m_bl {i j pos} : PE X (.Constant (.bool i) j pos) (tE X.K X.mg W (fC (.bl i))) := PE.of pe_bl fun _ _ _ h => c_ok (d := .bl i) (fun _ _ => rfl) h
theorem m_non {j pos} : PE X (.Constant .none j pos) (tE X.K X.mg W (fC .non)) := PE.of pe_non fun _ _ _ h => c_ok (d := .non) (fun _ _ => rfl) h
theorem m_str {i j pos} : PE X (.Constant (.str i) j pos) (tE X.K X.mg W (fC (.str i))) := PE.of pe_str fun _ _ _ h => c_ok (d := .str i) (fun _ _ => rfl) h
/-- a module's constant -/
theorem m_glob {x : Str} {d : D} {v : V} {u : Value} {pos : Pos} (hg : Gl X x) (hm : X.mg x = some u) (r : RelV v u) (hv : ∀ L H, Is X.K L H d v) (hd : (x == ("__debug__" : Str)) = false := by decide) :
    PE X (.Name x pos) (tE X.K X.mg W (fC d)) := PE.of (pe_glob hg hm r hd) fun _ _ _ h => c_ok hv h

/-! ### operators -/
/-- an operation's rule r follows from the function g -/
def OpS (K : PySem.W.Frag) (mg : Str → Option Value) (r : R2) (g : D → D → Mem → Res D) : Prop :=
  ∀ (H : Hp) (L : List Addr) (m : Mem) (dx dy : D) (x y : V) (W : XK) (Q : VK), Rep K H L m → Is K L H dx x → Is K L H dy y → Fin K mg (relV K) W H L (g dx dy m) Q → r x y H Q
def f2 (g : D → D → Mem → Res D) (fa fb : Env → Mem → Res D) : Env → Mem → Res D := fun ρ m => (fa ρ m).bind fun x m => (fb ρ m).bind fun y m => g x y m
theorem op_ok {K : PySem.W.Frag} {mg : Str → Option Value} {r : R2} {g : D → D → Mem → Res D} (hs : OpS K mg r g) {σ : St} {H : Hp} {Q : VK} (h : tE K mg W (f2 g fa fb) σ H Q) : tOp r (tE K mg W fa) (tE K mg W fb) σ H Q := by
  obtain ⟨L, ρ, m, a, h⟩ := h
  refine ⟨L, ρ, m, a, (Fin.bind h).imp ?_⟩
  rintro x H1 ⟨dx, m1, L1, k1, r1, i1, h1⟩
  refine ⟨L1, ρ, m1, a.mono k1 r1, (Fin.bind h1).imp ?_⟩
  rintro y H2 ⟨dy, m2, L2, k2, r2, i2, h2⟩
  exact hs H2 L2 m2 dx dy x y _ _ r2 (k2.is _ i1) i2 h2
theorem m_op {op : Operator} {r : R2} {gg : D → D → Mem → Res D} (ho : OpR X (binaryOp op) r) (hs : OpS X.K X.mg r gg) (ha : PE X a (tE X.K X.mg W fa)) (hb : PE X b (tE X.K X.mg W fb)) :
    PE X (.BinOp a op b pos) (tE X.K X.mg W (f2 gg fa fb)) := PE.of (pe_op ho ha hb) fun _ _ _ h => op_ok hs h
theorem m_cmp {op : CmpOp} {r : R2} {gg : D → D → Mem → Res D} (ho : OpR X (compareOp op) r) (hs : OpS X.K X.mg r gg) (hm : behindInMarks op b = false) (ha : PE X a (tE X.K X.mg W fa)) (hb : PE X b (tE X.K X.mg W fb)) :
    PE X (.Compare a [op] [b] pos) (tE X.K X.mg W (f2 gg fa fb)) := PE.of (pe_cmpR ho ha hb hm) fun _ _ _ h => op_ok hs h
theorem m_ix {r : R2} {gg : D → D → Mem → Res D} (ho : IxR X r) (hs : OpS X.K X.mg r gg) (hp : PlainIx b) (ha : PE X a (tE X.K X.mg W fa)) (hb : PE X b (tE X.K X.mg W fb)) :
    PE X (.Subscript a b pos) (tE X.K X.mg W (f2 gg fa fb)) := PE.of (pe_ix ho ha hb hp) fun _ _ _ h => op_ok hs h

/-! ### tests -/
def blD : D → Mem → Res Bool
  | .bl b, m => .ok b m
  | _, _ => .bad
theorem testOf {K : PySem.W.Frag} {mg : Str → Option Value} {f : Env → Mem → Res D} {t : TE} {σ : St} {H : Hp} {Q : Bool → Hp → Prop} (ht : ∀ Q, tE K mg W f σ H Q → t σ H Q) (h : tT K mg W (fun ρ m => (f ρ m).bind blD) σ H Q) : tTest t σ H Q := by
  obtain ⟨L, ρ, m, a, h⟩ := h
  refine ht _ ⟨L, ρ, m, a, (Fin.bind h).imp ?_⟩
  rintro x H1 ⟨dx, m1, L1, k1, r1, i1, h1⟩
  cases dx with
  | bl k =>
    have e : x = .bl k := i1
    exact ⟨k, e, Fin.ok (K := K) (mg := mg) (rel := relB) h1 r1 rfl⟩
  | _ => exact (show False from h1).elim
theorem m_cmpT {op : CmpOp} {r : R2} {gg : D → D → Mem → Res D} (ho : OpR X (compareOp op) r) (hs : OpS X.K X.mg r gg) (hm : behindInMarks op b = false) (ha : PE X a (tE X.K X.mg W fa)) (hb : PE X b (tE X.K X.mg W fb)) :
    PT X (.Compare a [op] [b] pos) (tT X.K X.mg W (fun ρ m => (f2 gg fa fb ρ m).bind blD)) := PT.of (pt_cmpR ho ha hb hm) fun _ _ _ h => testOf (fun _ q => op_ok hs q) h
/-- truth -/
def truD : D → Mem → Res Bool
  | .non, m => .ok false m
  | .bl b, m => .ok b m
  | .int i, m => .ok (i != 0) m
  | .str s, m => if s.length ≤ 16777216 then .ok ((s.length : Int) != 0) m else .bad
  | .tup ds, m => .ok (!ds.isEmpty) m
  | .rol ds, m => .ok (!ds.isEmpty) m
  | .ref n, m => match m[n]? with
    | some (.lst ds) => .ok (!ds.isEmpty) m
    | _ => .bad
  | .clo _, _ => .bad
  | .raw _, _ => .bad
theorem FzT.sq {K L H a vs} (h : FzT K L H a vs) : SqT K H a vs := by
  rcases h with ⟨h, _⟩ | h
  · exact .inl h
  · exact .inr h
theorem FzL.sq {K L H a vs} (h : FzL K L H a vs) : SqL K H a vs := by
  rcases h with ⟨h, _⟩ | h
  · exact .inl h
  · exact .inr h
theorem IsL.empty {K L H} {ds : List D} {vs : List V} (h : IsL K L H ds vs) : ds.isEmpty = vs.isEmpty := by
  cases ds with
  | nil =>
    have e : vs = [] := h
    subst e
    rfl
  | cons d ds =>
    obtain ⟨v, r, e, _⟩ := (show ∃ v r, vs = v :: r ∧ Is K L H d v ∧ IsL K L H ds r by simpa only [IsL] using h)
    subst e
    rfl
theorem Rep.lst {K H L m} (r : Rep K H L m) {n : Nat} {ds : List D} (e : m[n]? = some (.lst ds)) : ∃ a vs, L[n]? = some a ∧ H a = some (.lst vs) ∧ IsL K L H ds vs := by
  have hn : n < L.length := by rw [r.len]; exact (List.getElem?_eq_some_iff.mp e).1
  obtain ⟨vs, h1, h2⟩ := r.ob n _ _ (List.getElem?_eq_getElem hn) e
  exact ⟨_, vs, List.getElem?_eq_getElem hn, h1, h2⟩
theorem Rep.dic {K H L m} (r : Rep K H L m) {n : Nat} {ks : List Key} {ds : List D} (e : m[n]? = some (.dic ks ds)) : ∃ (a : Addr) (kvs : List (Key × V)), L[n]? = some a ∧ H a = some (.dK kvs) ∧ kvs.map (·.1) = ks ∧ IsL K L H ds (kvs.map (·.2)) := by
  have hn : n < L.length := by rw [r.len]; exact (List.getElem?_eq_some_iff.mp e).1
  obtain ⟨vs, h1, h2, h3⟩ := r.ob n _ _ (List.getElem?_eq_getElem hn) e
  exact ⟨_, vs, List.getElem?_eq_getElem hn, h1, h2, h3⟩
theorem tru_sound {K : PySem.W.Frag} {mg : Str → Option Value} {W : XK} {H : Hp} {L : List Addr} {m : Mem} {d : D} {v : V} {Q : Bool → Hp → Prop} (r : Rep K H L m) (i : Is K L H d v) (h : Fin K mg relB W H L (truD d m) Q) : ∃ k, TruV K v H k ∧ Q k H := by
  cases d with
  | non => exact ⟨false, by rw [show v = .non from i]; rfl, Fin.ok (K := K) (mg := mg) (rel := relB) h r rfl⟩
  | bl b => exact ⟨b, by rw [show v = .bl b from i]; rfl, Fin.ok (K := K) (mg := mg) (rel := relB) h r rfl⟩
  | int b => exact ⟨_, by rw [show v = .int b from i]; rfl, Fin.ok (K := K) (mg := mg) (rel := relB) h r rfl⟩
  | str s =>
    simp only [truD] at h
    by_cases hz : s.length ≤ 16777216
    · rw [if_pos hz] at h
      exact ⟨_, by rw [show v = .str s from i]; exact ⟨by rw [sizeLine_eq]; exact hz, rfl⟩, Fin.ok (K := K) (mg := mg) (rel := relB) h r rfl⟩
    · rw [if_neg hz] at h
      exact h.elim
  | tup ds =>
    obtain ⟨a, vs, e, f, g⟩ := (show ∃ a vs, v = .ref a ∧ FzT K L H a vs ∧ IsL K L H ds vs by simpa only [Is] using i)
    subst e
    exact ⟨!vs.isEmpty, .inr (.inl ⟨vs, f.sq, rfl⟩), by rw [← g.empty]; exact Fin.ok (K := K) (mg := mg) (rel := relB) h r rfl⟩
  | rol ds =>
    obtain ⟨a, vs, e, f, g⟩ := (show ∃ a vs, v = .ref a ∧ FzL K L H a vs ∧ IsL K L H ds vs by simpa only [Is] using i)
    subst e
    exact ⟨!vs.isEmpty, .inl ⟨vs, f.sq, rfl⟩, by rw [← g.empty]; exact Fin.ok (K := K) (mg := mg) (rel := relB) h r rfl⟩
  | ref n =>
    obtain ⟨a, e, q⟩ := (show ∃ a, L[n]? = some a ∧ v = .ref a by simpa only [Is] using i)
    subst q
    simp only [truD] at h
    cases z : m[n]? with
    | none =>
      simp only [z] at h
      exact h.elim
    | some o =>
      cases o with
      | lst ds =>
        simp only [z] at h
        obtain ⟨a', vs, e', hh, g⟩ := r.lst z
        rw [e] at e'
        cases e'
        exact ⟨!vs.isEmpty, .inl ⟨vs, SqL.of hh, rfl⟩, by rw [← g.empty]; exact Fin.ok (K := K) (mg := mg) (rel := relB) h r rfl⟩
      | dic ks ds =>
        simp only [z] at h
        exact h.elim
  | clo n => exact (show False from h).elim
  | raw n => exact (show False from h).elim
def fTru (f : Env → Mem → Res D) : Env → Mem → Res Bool := fun ρ m => (f ρ m).bind truD
theorem m_tru (ha : PE X a (tE X.K X.mg W fa)) (he : ∀ whole, isTrue a X.env whole = (do let v ← whole; standAt a.pos; holding [v] (truthy v)) := by intro _; rfl) : PT X a (tT X.K X.mg W (fTru fa)) := by
  refine PT.of (pt_truth ha he) fun σ H Q h => ?_
  obtain ⟨L, ρ, m, a, h⟩ := h
  refine ⟨L, ρ, m, a, (Fin.bind h).imp ?_⟩
  rintro x H1 ⟨dx, m1, L1, k1, r1, i1, h1⟩
  exact tru_sound r1 i1 h1
def fNot (g : Env → Mem → Res Bool) : Env → Mem → Res Bool := fun ρ m => (g ρ m).bind fun b m => .ok (!b) m
theorem m_not (ha : PT X a (tT X.K X.mg W g)) : PT X (.UnaryOp .Not a pos) (tT X.K X.mg W (fNot g)) := by
  refine PT.of (pt_not ha) fun σ H Q h => ?_
  obtain ⟨L, ρ, m, a, h⟩ := h
  refine ⟨L, ρ, m, a, (Fin.bind h).imp ?_⟩
  rintro x H1 ⟨dx, m1, L1, k1, r1, i1, h1⟩
  have e : x = dx := i1
  subst e
  exact Fin.ok (K := X.K) (mg := X.mg) (rel := relB) h1 r1 rfl
def fAnd (g gb : Env → Mem → Res Bool) : Env → Mem → Res Bool := fun ρ m => (g ρ m).bind fun b m => match b with
  | true => gb ρ m
  | false => .ok false m
def fOr (g gb : Env → Mem → Res Bool) : Env → Mem → Res Bool := fun ρ m => (g ρ m).bind fun b m => match b with
  | true => .ok true m
  | false => gb ρ m
variable {rest : List Expr}
theorem m_and1 (ha : PT X a (tT X.K X.mg W g)) : PW X (.BoolOp .And [a] pos) (tT X.K X.mg W g) := pw_and1 ha
theorem m_or1 (ha : PT X a (tT X.K X.mg W g)) : PW X (.BoolOp .Or [a] pos) (tT X.K X.mg W g) := pw_or1 ha
theorem m_and (ha : PT X a (tT X.K X.mg W g)) (hb : PW X (.BoolOp .And (b :: rest) pos) (tT X.K X.mg W gb)) : PW X (.BoolOp .And (a :: b :: rest) pos) (tT X.K X.mg W (fAnd g gb)) := by
  refine PW.of (pw_and ha hb) fun σ H Q h => ?_
  obtain ⟨L, ρ, m, a, h⟩ := h
  refine ⟨L, ρ, m, a, (Fin.bind h).imp ?_⟩
  rintro x H1 ⟨dx, m1, L1, k1, r1, i1, h1⟩
  have e : x = dx := i1
  subst e
  cases x with
  | true =>
    rw [if_pos rfl]
    exact ⟨L1, ρ, m1, a.mono k1 r1, h1⟩
  | false =>
    rw [if_neg Bool.false_ne_true]
    exact Fin.ok (K := X.K) (mg := X.mg) (rel := relB) h1 r1 rfl
theorem m_or (ha : PT X a (tT X.K X.mg W g)) (hb : PW X (.BoolOp .Or (b :: rest) pos) (tT X.K X.mg W gb)) : PW X (.BoolOp .Or (a :: b :: rest) pos) (tT X.K X.mg W (fOr g gb)) := by
  refine PW.of (pw_or ha hb) fun σ H Q h => ?_
  obtain ⟨L, ρ, m, a, h⟩ := h
  refine ⟨L, ρ, m, a, (Fin.bind h).imp ?_⟩
  rintro x H1 ⟨dx, m1, L1, k1, r1, i1, h1⟩
  have e : x = dx := i1
  subst e
  cases x with
  | true =>
    rw [if_pos rfl]
    exact Fin.ok (K := X.K) (mg := X.mg) (rel := relB) h1 r1 rfl
  | false =>
    rw [if_neg Bool.false_ne_true]
    exact ⟨L1, ρ, m1, a.mono k1 r1, h1⟩
/-! ### and, or, not, if as values -/
def vAnd (fa fb : Env → Mem → Res D) : Env → Mem → Res D := fun ρ m => (fa ρ m).bind fun x m => (truD x m).bind fun b m => match b with
  | true => fb ρ m
  | false => .ok x m
def vOr (fa fb : Env → Mem → Res D) : Env → Mem → Res D := fun ρ m => (fa ρ m).bind fun x m => (truD x m).bind fun b m => match b with
  | true => .ok x m
  | false => fb ρ m
theorem truD_mem : ∀ {d : D} {m m' : Mem} {b : Bool}, truD d m = .ok b m' → m' = m
  | .non, _, _, _, h => by cases h; rfl
  | .bl _, _, _, _, h => by cases h; rfl
  | .int _, _, _, _, h => by cases h; rfl
  | .str s, _, _, _, h => by
    simp only [truD] at h
    split at h
    · cases h; rfl
    · cases h
  | .tup _, _, _, _, h => by cases h; rfl
  | .rol _, _, _, _, h => by cases h; rfl
  | .ref n, _, _, _, h => by
    simp only [truD] at h
    split at h
    · cases h; rfl
    · cases h
  | .clo _, _, _, _, h => by cases h
  | .raw _, _, _, _, h => by cases h
theorem tru_bind {K : PySem.W.Frag} {mg : Str → Option Value} {α β : Type} {rel : Rel α β} {W : XK} {H : Hp} {L : List Addr} {m : Mem} {d : D} {v : V} {Q : β → Hp → Prop} {k : Bool → Mem → Res α} (r : Rep K H L m) (i : Is K L H d v)
    (h : Fin K mg rel W H L ((truD d m).bind k) Q) : ∃ b, TruV K v H b ∧ Fin K mg rel W H L (k b m) Q := by
  cases q : truD d m with
  | bad =>
    rw [q] at h
    exact h.elim
  | ex e m' =>
    cases d <;> simp only [truD] at q <;> first | (split at q <;> cases q) | cases q
  | ok b m' =>
    have e := truD_mem q
    subst e
    obtain ⟨k', h1, h2⟩ := tru_sound (K := K) (mg := mg) (W := W) (Q := fun b' _ => b' = b) r i (by rw [q]; exact fun b' H' L' _ _ e => e)
    subst h2
    rw [q] at h
    exact ⟨k', h1, h⟩
theorem m_vone {op} (h : PE X a (tE X.K X.mg W fa)) : PE X (.BoolOp op [a] pos) (tE X.K X.mg W fa) := pe_one h
theorem m_vand (ha : PE X a (tE X.K X.mg W fa)) (hb : PE X (.BoolOp .And (b :: rest) pos) (tE X.K X.mg W fb)) : PE X (.BoolOp .And (a :: b :: rest) pos) (tE X.K X.mg W (vAnd fa fb)) := by
  refine PE.of (pe_andT ha hb) fun σ H Q h => ?_
  obtain ⟨L, ρ, m, a, h⟩ := h
  refine ⟨L, ρ, m, a, (Fin.bind h).imp ?_⟩
  rintro x H1 ⟨dx, m1, L1, k1, r1, i1, h1⟩
  obtain ⟨k, t, h2⟩ := tru_bind r1 i1 h1
  refine ⟨k, t, ?_⟩
  cases k with
  | true =>
    rw [if_pos rfl]
    exact ⟨L1, ρ, m1, a.mono k1 r1, h2⟩
  | false =>
    rw [if_neg Bool.false_ne_true]
    exact Fin.ok (K := X.K) (mg := X.mg) (rel := relV X.K) h2 r1 i1
theorem m_vor (ha : PE X a (tE X.K X.mg W fa)) (hb : PE X (.BoolOp .Or (b :: rest) pos) (tE X.K X.mg W fb)) : PE X (.BoolOp .Or (a :: b :: rest) pos) (tE X.K X.mg W (vOr fa fb)) := by
  refine PE.of (pe_orT ha hb) fun σ H Q h => ?_
  obtain ⟨L, ρ, m, a, h⟩ := h
  refine ⟨L, ρ, m, a, (Fin.bind h).imp ?_⟩
  rintro x H1 ⟨dx, m1, L1, k1, r1, i1, h1⟩
  obtain ⟨k, t, h2⟩ := tru_bind r1 i1 h1
  refine ⟨k, t, ?_⟩
  cases k with
  | true =>
    rw [if_pos rfl]
    exact Fin.ok (K := X.K) (mg := X.mg) (rel := relV X.K) h2 r1 i1
  | false =>
    rw [if_neg Bool.false_ne_true]
    exact ⟨L1, ρ, m1, a.mono k1 r1, h2⟩
def vNot (fa : Env → Mem → Res D) : Env → Mem → Res D := fun ρ m => (fa ρ m).bind fun x m => (truD x m).bind fun b m => .ok (.bl (!b)) m
theorem m_vnot (ha : PE X a (tE X.K X.mg W fa)) : PE X (.UnaryOp .Not a pos) (tE X.K X.mg W (vNot fa)) := by
  refine PE.of (pe_notT ha) fun σ H Q h => ?_
  obtain ⟨L, ρ, m, a, h⟩ := h
  refine ⟨L, ρ, m, a, (Fin.bind h).imp ?_⟩
  rintro x H1 ⟨dx, m1, L1, k1, r1, i1, h1⟩
  obtain ⟨k, t, h2⟩ := tru_bind r1 i1 h1
  exact ⟨k, t, Fin.ok (K := X.K) (mg := X.mg) (rel := relV X.K) h2 r1 rfl⟩
def fIf (g : Env → Mem → Res Bool) (fa fb : Env → Mem → Res D) : Env → Mem → Res D := fun ρ m => (g ρ m).bind fun b m => match b with
  | true => fa ρ m
  | false => fb ρ m
theorem m_ifx (hc : PT X c (tT X.K X.mg W g)) (ha : PE X a (tE X.K X.mg W fa)) (hb : PE X b (tE X.K X.mg W fb)) : PE X (.IfExp c a b pos) (tE X.K X.mg W (fIf g fa fb)) := by
  refine PE.of (pe_ifExp hc ha hb) fun σ H Q h => ?_
  obtain ⟨L, ρ, m, a, h⟩ := h
  refine ⟨L, ρ, m, a, (Fin.bind h).imp ?_⟩
  rintro x H1 ⟨dx, m1, L1, k1, r1, i1, h1⟩
  have e : x = dx := i1
  subst e
  cases x with
  | true =>
    rw [if_pos rfl]
    exact ⟨L1, ρ, m1, a.mono k1 r1, h1⟩
  | false =>
    rw [if_neg Bool.false_ne_true]
    exact ⟨L1, ρ, m1, a.mono k1 r1, h1⟩
/-! ### argument lists, displays -/
def aNil : Env → Mem → Res (List D) := fun _ m => .ok [] m
def aCons (f : Env → Mem → Res D) (r : Env → Mem → Res (List D)) : Env → Mem → Res (List D) := fun ρ m => (f ρ m).bind fun d m => (r ρ m).bind fun ds m => .ok (d :: ds) m
theorem m_anil : PA X [] (tA X.K X.mg W aNil) := PA.of pa_nil fun σ H Q h => by
  obtain ⟨L, ρ, m, a, h⟩ := h
  exact Fin.ok (K := X.K) (mg := X.mg) (rel := relA X.K) h a.rep rfl
theorem m_acons (ha : PE X a (tE X.K X.mg W fa)) (hr : PA X es (tA X.K X.mg W fs)) (hs : starEach (a :: es) X.env = (false, eval a X.env) :: starEach es X.env := by rfl) : PA X (a :: es) (tA X.K X.mg W (aCons fa fs)) := by
  refine PA.of (pa_cons ha hr hs) fun σ H Q h => ?_
  obtain ⟨L, ρ, m, a, h⟩ := h
  refine ⟨L, ρ, m, a, (Fin.bind h).imp ?_⟩
  rintro x H1 ⟨dx, m1, L1, k1, r1, i1, h1⟩
  refine ⟨L1, ρ, m1, a.mono k1 r1, (Fin.bind h1).imp ?_⟩
  rintro xs H2 ⟨ds, m2, L2, k2, r2, i2, h2⟩
  refine Fin.ok (K := X.K) (mg := X.mg) (rel := relA X.K) h2 r2 ?_
  show IsL X.K L2 H2 (dx :: ds) (x :: xs)
  simp only [IsL]
  exact ⟨x, xs, rfl, k2.is _ i1, i2⟩
/-- a new object, not a handle -/
theorem Kp.new_ {H : Hp} {L : List Addr} {p : Addr} {o : HO} (h : H p = none) : Kp H L (upd H p o) L :=
  ⟨⟨[], by simp⟩, fun a u _ e _ => by rw [upd_ne (ne_of_none e h)]; exact e, fun a ps e => ⟨ps, by rw [upd_ne (ne_of_none e h)]; exact e⟩, fun a i n => absurd i n, fun t => t.ext fun b u e => by rw [upd_ne (ne_of_none e h)]; exact e⟩
theorem Kp.newH {H : Hp} {L : List Addr} {p : Addr} {o : HO} (h : H p = none) : Kp H L (upd H p o) (L ++ [p]) :=
  ⟨⟨[p], rfl⟩, fun a u _ e _ => by rw [upd_ne (ne_of_none e h)]; exact e, fun a ps e => ⟨ps, by rw [upd_ne (ne_of_none e h)]; exact e⟩, fun a i n => by
    rcases List.mem_append.mp i with i | i
    · exact absurd i n
    · rw [List.mem_singleton.mp i]; exact h, fun t => t.ext fun b u e => by rw [upd_ne (ne_of_none e h)]; exact e⟩
theorem OIs.mono {K H L H' L'} {a : Addr} {o : Obj} (k : Kp H L H' L') (e : H' a = H a) (h : OIs K L H a o) : OIs K L' H' a o := by
  cases o with
  | lst ds =>
    obtain ⟨vs, h1, h2⟩ := h
    exact ⟨vs, by rw [e]; exact h1, k.isL _ h2⟩
  | dic ks ds =>
    obtain ⟨kvs, h1, h2, h3⟩ := h
    exact ⟨kvs, by rw [e]; exact h1, h2, k.isL _ h3⟩
theorem OIs.there {K H L} {a : Addr} {o : Obj} (h : OIs K L H a o) : ∃ u, H a = some u := by
  cases o with
  | lst ds =>
    obtain ⟨vs, h1, h2⟩ := h
    exact ⟨_, h1⟩
  | dic ks ds =>
    obtain ⟨kvs, h1, h2, h3⟩ := h
    exact ⟨_, h1⟩
theorem Rep.tracked {K H L m} (r : Rep K H L m) {a : Addr} (h : a ∈ L) : ∃ u, H a = some u := by
  obtain ⟨n, hn, e⟩ := List.getElem_of_mem h
  have hm : n < m.length := by rw [← r.len]; exact hn
  exact (r.ob n a m[n] (by rw [List.getElem?_eq_getElem hn, e]) (List.getElem?_eq_getElem hm)).there
theorem Rep.new_ {K H L m} (r : Rep K H L m) {p : Addr} {o : HO} (h : H p = none) : Rep K (upd H p o) L m := by
  refine ⟨r.len, r.nd, fun n a u e1 e2 => ?_, (Kp.new_ (L := L) h).tabs r.tab, Clo.jm _ _ _ _ (Kp.new_ h) r.j⟩
  obtain ⟨w, hw⟩ := r.tracked (List.mem_of_getElem? e1)
  exact OIs.mono (Kp.new_ h) (upd_ne (ne_of_none hw h)) (r.ob n a u e1 e2)
theorem Rep.newH {K H L m} (r : Rep K H L m) {p : Addr} {o : HO} {u : Obj} (h : H p = none) (hu : OIs K (L ++ [p]) (upd H p o) p u) : Rep K (upd H p o) (L ++ [p]) (m ++ [u]) := by
  refine ⟨by rw [List.length_append, List.length_append, r.len]; rfl, ?_, fun n a w e1 e2 => ?_, (Kp.newH (L := L) h).tabs r.tab, Clo.jm _ _ _ _ (Kp.newH h) r.j⟩
  · refine List.nodup_append.mpr ⟨r.nd, by simp, fun x hx y hy z => ?_⟩
    obtain ⟨w, hw⟩ := r.tracked hx
    rw [z, List.mem_singleton.mp hy, h] at hw
    cases hw
  · by_cases hn : n < L.length
    · rw [List.getElem?_append_left hn] at e1
      rw [List.getElem?_append_left (by rw [← r.len]; exact hn)] at e2
      obtain ⟨x, hx⟩ := r.tracked (List.mem_of_getElem? e1)
      exact OIs.mono (Kp.newH h) (upd_ne (ne_of_none hx h)) (r.ob n a w e1 e2)
    · have hn' : n = L.length := by
        have := (List.getElem?_eq_some_iff.mp e1).1
        rw [List.length_append, List.length_singleton] at this
        omega
      rw [hn', List.getElem?_concat_length] at e1
      rw [hn', r.len, List.getElem?_concat_length] at e2
      cases e1
      cases e2
      exact hu
theorem IsL.length {K L H} : ∀ {ds : List D} {vs : List V}, IsL K L H ds vs → vs.length = ds.length
  | [], vs, h => by rw [show vs = [] from h]; rfl
  | d :: ds, vs, h => by
    obtain ⟨v, r, e, _, g⟩ := (show ∃ v r, vs = v :: r ∧ Is K L H d v ∧ IsL K L H ds r by simpa only [IsL] using h)
    rw [e, List.length_cons, List.length_cons, IsL.length g]
def tupD (ds : List D) (m : Mem) : Res D := if ds.length ≤ 16777216 then .ok (.tup ds) m else .bad
def lstD (ds : List D) (m : Mem) : Res D := if ds.length ≤ 16777216 then .ok (.ref m.length) (m ++ [.lst ds]) else .bad
def fTup (fs : Env → Mem → Res (List D)) : Env → Mem → Res D := fun ρ m => (fs ρ m).bind tupD
def fLst (fs : Env → Mem → Res (List D)) : Env → Mem → Res D := fun ρ m => (fs ρ m).bind lstD
/-- a tuple just laid -/
theorem tup_new {K : PySem.W.Frag} {mg : Str → Option Value} {W : XK} {H : Hp} {L : List Addr} {m : Mem} {ds : List D} {vs : List V} {Q : VK} (r : Rep K H L m) (i : IsL K L H ds vs) (h : Fin K mg (relV K) W H L (.ok (.tup ds) m) Q) {p : Addr} (hp : H p = none) : Q (.ref p) (upd H p (.tup vs)) := by
  refine h _ _ L (Kp.new_ hp) (r.new_ hp) ?_
  simp only [relV, Is]
  refine ⟨p, vs, rfl, .inl ⟨.inl upd_same, fun z => ?_⟩, (Kp.new_ hp).isL _ i⟩
  obtain ⟨u, hu⟩ := r.tracked z
  rw [hp] at hu
  cases hu
theorem lst_new {K : PySem.W.Frag} {mg : Str → Option Value} {W : XK} {H : Hp} {L : List Addr} {m : Mem} {ds : List D} {vs : List V} {Q : VK} (r : Rep K H L m) (i : IsL K L H ds vs) (h : Fin K mg (relV K) W H L (.ok (.ref m.length) (m ++ [.lst ds])) Q) {p : Addr} (hp : H p = none) : Q (.ref p) (upd H p (.lst vs)) := by
  refine h _ _ (L ++ [p]) (Kp.newH hp) (r.newH hp ⟨vs, upd_same, (Kp.newH hp).isL _ i⟩) ?_
  simp only [relV, Is]
  exact ⟨p, by rw [← r.len, List.getElem?_concat_length], rfl⟩
theorem m_tup {x1} (h : PA X es (tA X.K X.mg W fs)) : PE X (.Tuple es x1 pos) (tE X.K X.mg W (fTup fs)) := by
  refine PE.of (pe_tup h) fun σ H Q h => ?_
  obtain ⟨L, ρ, m, a, h⟩ := h
  refine ⟨L, ρ, m, a, (Fin.bind h).imp ?_⟩
  rintro xs H1 ⟨ds, m1, L1, k1, r1, i1, h1⟩
  unfold tupD at h1
  by_cases hz : ds.length ≤ 16777216
  · rw [if_pos hz] at h1
    exact ⟨by rw [IsL.length i1, sizeLine_eq]; exact hz, fun p hp => tup_new r1 i1 h1 hp⟩
  · rw [if_neg hz] at h1
    exact h1.elim
theorem m_lst (h : PA X es (tA X.K X.mg W fs)) : PE X (.List es pos) (tE X.K X.mg W (fLst fs)) := by
  refine PE.of (pe_lst h) fun σ H Q h => ?_
  obtain ⟨L, ρ, m, a, h⟩ := h
  refine ⟨L, ρ, m, a, (Fin.bind h).imp ?_⟩
  rintro xs H1 ⟨ds, m1, L1, k1, r1, i1, h1⟩
  unfold lstD at h1
  by_cases hz : ds.length ≤ 16777216
  · rw [if_pos hz] at h1
    exact ⟨by rw [IsL.length i1, sizeLine_eq]; exact hz, fun p hp => lst_new r1 i1 h1 hp⟩
  · rw [if_neg hz] at h1
    exact h1.elim
end
end Mn
end
section
set_option Elab.async false
set_option Elab.async false
set_option linter.all false
set_option maxRecDepth 100000
set_option maxHeartbeats 2000000
namespace Mn
open PySem L2
variable [Clo]

/-! ### statements -/
def resS {α : Type} (r : Res α) (ρ : Env) (k : α → Mem → Out) : Out := match r with
  | .ok d m => k d m
  | .ex e m => .ex e ρ m
  | .bad => .bad
section
variable {K : PySem.W.Frag} {mg : Str → Option Value} {W : WX} {D : Ends} {σ : St} {H : Hp} {L : List Addr} {ρ : Env} {m0 : Mem}
theorem FinS.bind {α β : Type} {rel : Rel α β} {r : Res α} {k : α → Mem → Out} (a : At K σ H L ρ m0) (h : FinS K mg W D H L (resS r ρ k)) :
    Fin K mg rel (fun c d H' => W c d σ H') H L r fun v H' => ∃ d m L', Kp H L H' L' ∧ Rep K H' L' m ∧ rel L' H' d v ∧ FinS K mg W D H' L' (k d m) := by
  cases r with
  | ok d m => exact fun b H2 L2 k2 rp i => ⟨d, m, L2, k2, rp, i, FinS.mono (o := k d m) h k2⟩
  | ex e m => exact fun c d H2 L2 k2 rp i => h c d σ H2 L2 k2 (a.mono k2 rp) i
  | bad => exact h
end
def sPass : Env → Mem → Out := fun ρ m => .nx ρ m
def sBrk : Env → Mem → Out := fun ρ m => .bk ρ m
def sCnt : Env → Mem → Out := fun ρ m => .ct ρ m
def sSeq (F G : Env → Mem → Out) : Env → Mem → Out := fun ρ m => match F ρ m with
  | .nx ρ m => G ρ m
  | o => o
def sIf (g : Env → Mem → Res Bool) (F G : Env → Mem → Out) : Env → Mem → Out := fun ρ m => resS (g ρ m) ρ fun b m => match b with
  | true => F ρ m
  | false => G ρ m
def sSet (i : Nat) (f : Env → Mem → Res D) : Env → Mem → Out := fun ρ m => resS (f ρ m) ρ fun d m => .nx (ρ.set i (some d)) m
def sRet (f : Env → Mem → Res D) : Env → Mem → Out := fun ρ m => resS (f ρ m) ρ fun d m => .rt d m
def sRetN : Env → Mem → Out := fun _ m => .rt .non m
def sExpr (f : Env → Mem → Res D) : Env → Mem → Out := fun ρ m => resS (f ρ m) ρ fun _ m => .nx ρ m
def sRaise (x : Str) : Env → Mem → Out := fun ρ m => .ex ⟨x, []⟩ ρ m
section
variable {X : Cx} {W : WX} {e : Expr} {st : Stmt} {rest body orelse : List Stmt} {f : Env → Mem → Res D} {g : Env → Mem → Res Bool} {F G : Env → Mem → Out} {pos : Pos}
theorem m_nil : PSs X [] (tS X.K X.mg W sPass) := PSs.of pss_nil fun D σ H h => by
  obtain ⟨L, ρ, m, a, h⟩ := h
  exact h σ H L (Kp.refl H L) a
theorem m_one (h : PS X st (tS X.K X.mg W F)) : PSs X [st] (tS X.K X.mg W F) := pss_one h
theorem m_cons (h1 : PS X st (tS X.K X.mg W F)) (h2 : PSs X rest (tS X.K X.mg W G)) : PSs X (st :: rest) (tS X.K X.mg W (sSeq F G)) := by
  refine PSs.of (pss_cons h1 h2) fun D σ H h => ?_
  obtain ⟨L, ρ, m, a, h⟩ := h
  refine ⟨L, ρ, m, a, ?_⟩
  unfold sSeq at h
  cases q : F ρ m with
  | nx ρ' m' =>
    rw [q] at h
    exact fun σ' H' L' k a' => ⟨L', ρ', m', a', FinS.mono (o := G ρ' m') h k⟩
  | rt d m' => rw [q] at h; exact h
  | bk ρ' m' => rw [q] at h; exact h
  | ct ρ' m' => rw [q] at h; exact h
  | ex e ρ' m' => rw [q] at h; exact h
  | bad => rw [q] at h; exact h
theorem m_pass : PS X (.Pass pos) (tS X.K X.mg W sPass) := PS.of ps_pass fun D σ H h => by
  obtain ⟨L, ρ, m, a, h⟩ := h
  exact h σ H L (Kp.refl H L) a
theorem m_brk : PS X (.Break pos) (tS X.K X.mg W sBrk) := PS.of ps_break fun D σ H h => by
  obtain ⟨L, ρ, m, a, h⟩ := h
  exact h σ H L (Kp.refl H L) a
theorem m_cnt : PS X (.Continue pos) (tS X.K X.mg W sCnt) := PS.of ps_continue fun D σ H h => by
  obtain ⟨L, ρ, m, a, h⟩ := h
  exact h σ H L (Kp.refl H L) a
theorem m_expr (he : PE X e (tE X.K X.mg W f)) (hs : swapsWith e none pos.line X.env = pure false := by rfl) : PS X (.Expr e pos) (tS X.K X.mg W (sExpr f)) := by
  refine PS.of (ps_expr he hs) fun D σ H h => ?_
  obtain ⟨L, ρ, m, a, h⟩ := h
  refine ⟨L, ρ, m, a, (FinS.bind a h).imp ?_⟩
  rintro v H1 ⟨d, m1, L1, k1, r1, i1, h1⟩
  exact h1 σ H1 L1 (Kp.refl H1 L1) (a.mono k1 r1)
theorem m_ret (he : PE X e (tE X.K X.mg W f)) : PS X (.Return (some e) pos) (tS X.K X.mg W (sRet f)) := by
  refine PS.of (ps_ret he) fun D σ H h => ?_
  obtain ⟨L, ρ, m, a, h⟩ := h
  refine ⟨L, ρ, m, a, (FinS.bind a h).imp ?_⟩
  rintro v H1 ⟨d, m1, L1, k1, r1, i1, h1⟩
  exact h1 v H1 L1 (Kp.refl H1 L1) r1 i1
theorem m_retN : PS X (.Return none pos) (tS X.K X.mg W sRetN) := PS.of ps_retN fun D σ H h => by
  obtain ⟨L, ρ, m, a, h⟩ := h
  exact h .non H L (Kp.refl H L) a.rep rfl
theorem m_if {c : Expr} (hc : PT X c (tT X.K X.mg W g)) (ha : PSs X body (tS X.K X.mg W F)) (hb : PSs X orelse (tS X.K X.mg W G)) : PS X (.If c body orelse pos) (tS X.K X.mg W (sIf g F G)) := by
  refine PS.of (ps_if hc ha hb) fun D σ H h => ?_
  obtain ⟨L, ρ, m, a, h⟩ := h
  refine ⟨L, ρ, m, a, (FinS.bind (rel := relB) a h).imp ?_⟩
  rintro b H1 ⟨b', m1, L1, k1, r1, i1, h1⟩
  have eb : b = b' := i1
  subst eb
  cases b with
  | true =>
    rw [if_pos rfl]
    exact ⟨L1, ρ, m1, a.mono k1 r1, h1⟩
  | false =>
    rw [if_neg Bool.false_ne_true]
    exact ⟨L1, ρ, m1, a.mono k1 r1, h1⟩
theorem m_set {x : Str} {pos' : Pos} (i : Nat) (hN : X.N.Nodup) (he : PE X e (tE X.K X.mg W f)) (hi : X.N[i]? = some x := by rfl) (hx : Loc X.env.scope x := by first | exact Or.inl rfl | exact Or.inr rfl)
    (hs : swapsWith e (some (.Name x pos')) pos.line X.env = pure false := by rfl) (hf : X.fn x = true ∨ X.env.scope.names.lookup x = some .local := by first | exact .inl rfl | exact .inr rfl | assumption) :
    PS X (.Assign [.Name x pos'] e pos) (tS X.K X.mg W (sSet i f)) := by
  refine PS.of (ps_set hN hi hx he hs hf) fun D σ H h => ?_
  obtain ⟨L, ρ, m, a, h⟩ := h
  refine ⟨L, ρ, m, a, (FinS.bind a h).imp ?_⟩
  rintro v H1 ⟨d, m1, L1, k1, r1, i1, h1⟩
  exact h1 _ H1 L1 (Kp.refl H1 L1) ((a.mono k1 r1).set i i1)
/-- raise X('..') -/
theorem m_raise {C : Addr} {bmB : List Value} {B newId initId : String} {x m : Str} {j : Nat} {p p2 pos' : Pos} (hc : X.calm = true) (tk : Takes X W) (Fb : ExcBaseFacts B newId initId bmB) (q : PySem.W.excIn X.K C bmB newId = true) (gC : X.mg x = some (.ref C)) (kC : PySem.W.keepIn X.K (.ref C) = true) (r : Raises X (.ref C)) (hg : Gl X x)
    (hdb : (x == ("__debug__" : Str)) = false := by decide) : PS X (.Raise (some (.Call (.Name x p) [.Constant (.str m) j p2] [] pos')) none pos) (tS X.K X.mg W (sRaise x)) := by
  refine PS.of (ps_raise hc tk (pmk_own Fb q gC kC r hg hdb)) fun D σ H h => ?_
  obtain ⟨L, ρ, mm, a, h⟩ := h
  exact h _ none σ H L (Kp.refl H L) a ⟨C, gC, rfl, .inl ⟨rfl, rfl⟩⟩
end

/-! ### targets -/
/-- a target stores a datum -/
def TgS (K : PySem.W.Frag) (g : TG) (t : D → Env → Option Env) : Prop :=
  ∀ (d : D) (v : V) (σ : St) (H : Hp) (L : List Addr) (ρ ρ' : Env) (m : Mem) (Q : St → Hp → Prop), At K σ H L ρ m → Is K L H d v → t d ρ = some ρ' → (∀ σ', At K σ' H L ρ' m → Q σ' H) → g v σ H Q
def gN (i : Nat) : D → Env → Option Env := fun d ρ => some (ρ.set i (some d))
theorem tg_name {K : PySem.W.Frag} (i : Nat) : TgS K (gName i) (gN i) := by
  intro d v σ H L ρ ρ' m Q a h e q
  cases e
  exact q _ (a.set i h)

/-! ### what is walked -/
/-- the iterator J yields the data ds; still: what must hold of the memory while it does -/
structure Walk (K : PySem.W.Frag) (J : It) (ds : List D) (still : Mem → Bool) (H0 : Hp) (L0 : List Addr) : Prop where
  run : ∀ (H : Hp) (L : List Addr) (m : Mem), Kp H0 L0 H L → Rep K H L m → still m = true →
    (∀ (i : Nat), i < ds.length → J.go i H ∧ ∀ x H', J.yld i H x H' → Kp H L H' L ∧ Rep K H' L m ∧ ∃ d, ds[i]? = some d ∧ Is K L H' d x) ∧ J.stop ds.length H
theorem Walk.mono {K J ds still H0 L0 H1 L1} (w : Walk K J ds still H0 L0) (k : Kp H0 L0 H1 L1) : Walk K J ds still H1 L1 := ⟨fun H L m k2 => w.run H L m (k.trans k2)⟩
/-- the data that a thing walks, what must hold meanwhile -/
abbrev Src := List D × (Mem → Bool)
abbrev relJ (K : PySem.W.Frag) : Rel Src It := fun L H s J => Walk K J s.1 s.2 H L
def WalkI (K : PySem.W.Frag) (mg : Str → Option Value) (W : WX) (wi : TI) (f : Env → Mem → Res Src) : Prop :=
  ∀ (σ : St) (H : Hp) (R : It → Hp → Prop) (L : List Addr) (ρ : Env) (m : Mem), At K σ H L ρ m → Fin K mg (relJ K) (fun c d H' => W c d σ H') H L (f ρ m) R → wi σ H R
def loopD (still : Mem → Bool) (t : D → Env → Option Env) (body : Env → Mem → Out) : List D → Env → Mem → Out
  | [], ρ, m => if still m then .nx ρ m else .bad
  | d :: ds, ρ, m => if still m then (match t d ρ with
    | none => .bad
    | some ρ1 => match body ρ1 m with
      | .nx ρ2 m2 => loopD still t body ds ρ2 m2
      | .ct ρ2 m2 => loopD still t body ds ρ2 m2
      | .bk ρ2 m2 => .nx ρ2 m2
      | o => o) else .bad
def sFor (f : Env → Mem → Res Src) (t : D → Env → Option Env) (body : Env → Mem → Out) : Env → Mem → Out := fun ρ m =>
  resS (f ρ m) ρ fun s m => loopD s.2 t body s.1 ρ m
theorem loop_ok {K : PySem.W.Frag} {mg : Str → Option Value} {W : WX} {J : It} {ds : List D} {still : Mem → Bool} {H0 : Hp} {L0 : List Addr} {g : TG} {t : D → Env → Option Env} {body : Env → Mem → Out} {E : Ends} {ρ0 : Env} {m0 : Mem} {σ0 : St}
    (w : Walk K J ds still H0 L0) (tg : TgS K g t) (a0 : At K σ0 H0 L0 ρ0 m0) (h : FinS K mg W E H0 L0 (loopD still t body ds ρ0 m0)) :
    ∃ Wv : Nat → Nat → St → Hp → Prop, (∃ k, Wv 0 k σ0 H0) ∧ ∀ i k σ H, Wv i k σ H →
      (J.stop i H ∧ E.nx σ H) ∨ (J.go i H ∧ ∃ N : St → Hp → Prop, (∀ σ' H', N σ' H' → ∃ k', k' < k ∧ Wv (i + 1) k' σ' H') ∧ ∀ x H', J.yld i H x H' → g x σ H' fun σ2 H2 => tS K mg W body { E with nx := N, ct := N, bk := E.nx } σ2 H2) := by
  refine ⟨fun i k σ H => k = ds.length - i ∧ i ≤ ds.length ∧ ∃ L ρ m, Kp H0 L0 H L ∧ At K σ H L ρ m ∧ FinS K mg W E H L (loopD still t body (ds.drop i) ρ m),
    ⟨ds.length, rfl, Nat.zero_le _, L0, ρ0, m0, Kp.refl _ _, a0, h⟩, ?_⟩
  rintro i k σ H ⟨rfl, hi, L, ρ, m, kp, a, h⟩
  by_cases hlt : i < ds.length
  · rw [List.drop_eq_getElem_cons hlt] at h
    simp only [loopD] at h
    cases hs : still m with
    | false =>
      rw [hs, if_neg Bool.false_ne_true] at h
      exact h.elim
    | true =>
      rw [hs, if_pos rfl] at h
      obtain ⟨go, _⟩ := w.run H L m kp a.rep hs
      obtain ⟨hgo, hy⟩ := go i hlt
      cases ht : t ds[i] ρ with
      | none =>
        simp only [ht] at h
        exact h.elim
      | some ρ1 =>
        simp only [ht] at h
        refine .inr ⟨hgo, fun σ' H' => ∃ L' ρ' m', Kp H0 L0 H' L' ∧ At K σ' H' L' ρ' m' ∧ FinS K mg W E H' L' (loopD still t body (ds.drop (i + 1)) ρ' m'), fun σ' H' ⟨L', ρ', m', k1, a1, h1⟩ => ⟨ds.length - (i + 1), by omega, rfl, hlt, L', ρ', m', k1, a1, h1⟩, fun x H' y => ?_⟩
        obtain ⟨kpy, rpy, d, ed, id⟩ := hy x H' y
        replace h := FinS.mono h kpy
        replace a := a.mono kpy rpy
        replace kp := kp.trans kpy
        clear hy
        have ed' : ds[i] = d := by
          rw [List.getElem?_eq_getElem hlt] at ed
          exact Option.some.inj ed
        subst ed'
        refine tg _ x σ H' L ρ ρ1 m _ a id ht fun σ2 a2 => ⟨L, ρ1, m, a2, ?_⟩
        cases q : body ρ1 m with
        | nx ρ2 m2 =>
          simp only [q] at h ⊢
          exact fun σ3 H3 L3 k3 a3 => ⟨L3, ρ2, m2, kp.trans k3, a3, FinS.mono (o := loopD still t body _ ρ2 m2) h k3⟩
        | ct ρ2 m2 =>
          simp only [q] at h ⊢
          exact fun σ3 H3 L3 k3 a3 => ⟨L3, ρ2, m2, kp.trans k3, a3, FinS.mono (o := loopD still t body _ ρ2 m2) h k3⟩
        | bk ρ2 m2 =>
          simp only [q] at h ⊢
          exact fun σ3 H3 L3 k3 a3 => h σ3 H3 L3 k3 a3
        | rt d m2 => simp only [q] at h ⊢; exact h
        | ex e ρ2 m2 => simp only [q] at h ⊢; exact h
        | bad => simp only [q] at h ⊢; exact h
  · have e : i = ds.length := by omega
    subst e
    rw [List.drop_eq_nil_of_le (Nat.le_refl _)] at h
    simp only [loopD] at h
    cases hs : still m with
    | false =>
      rw [hs, if_neg Bool.false_ne_true] at h
      exact h.elim
    | true =>
      rw [hs, if_pos rfl] at h
      obtain ⟨_, stop⟩ := w.run H L m kp a.rep hs
      exact .inl ⟨stop, h σ H L (Kp.refl H L) a⟩
section
variable {X : Cx} {W : WX} {tg iter : Expr} {body : List Stmt} {wi : TI} {g : TG} {f : Env → Mem → Res Src} {t : D → Env → Option Env} {F : Env → Mem → Out} {pos : Pos}
theorem m_for (hp : PassesOwn (model X.prog X.w) X.A X.env X.xe) (hc : X.calm = true) (hi : PI X tg iter wi) (hw : WalkI X.K X.mg W wi f) (hg : PG X tg g) (ht : TgS X.K g t) (hb : PSs X body (tS X.K X.mg W F))
    (hs : ∀ x, foldedSetIterable iter X.env x = pure x := by intro _; rfl) : PS X (.For tg iter body [] pos) (tS X.K X.mg W (sFor f t F)) := by
  refine PS.of (ps_for hp hc hi hg hb hs) fun D σ H h => ?_
  obtain ⟨L, ρ, m, a, h⟩ := h
  refine hw σ H _ L ρ m a ((FinS.bind (rel := relJ X.K) a h).imp ?_)
  rintro J H1 ⟨s, m1, L1, k1, r1, w, h1⟩
  exact loop_ok w ht (a.mono k1 r1) h1
end

/-! ### a list is written -/
theorem tabS_wr {H : Hp} {a : Addr} {vs : List V} {o : HO} {P : Addr} {q : Str} (hv : H a = some (.lst vs)) (t : LamX.TabS H P q) : LamX.TabS (upd H a o) P q := by
  obtain ⟨ps, h1, h2, h3⟩ := t
  refine ⟨ps, by rw [upd_ne (fun z => by rw [z, hv] at h1; cases h1)]; exact h1, h2, fun pos cv hc => ?_⟩
  obtain ⟨c, e1, e2⟩ := h3 pos cv hc
  refine ⟨c, e1, ?_⟩
  rw [upd_ne (fun z => by rw [z, hv] at e2; unfold LamX.CodeO at e2; cases e2)]
  exact e2
theorem Kp.wr {K H L m} (r : Rep K H L m) {n : Nat} {a : Addr} {vs : List V} {o : HO} (ha : L[n]? = some a) (hv : H a = some (.lst vs)) : Kp H L (upd H a o) L :=
  ⟨⟨[], by simp⟩, fun b u hb e _ => by rw [upd_ne (fun z => hb (by rw [z]; exact List.mem_of_getElem? ha))]; exact e, fun b ps e => ⟨ps, by rw [upd_ne (fun z => by rw [z, hv] at e; cases e)]; exact e⟩, fun b i n => absurd i n, fun t p hp => tabS_wr hv (t p hp)⟩
theorem Rep.wr {K H L m} (r : Rep K H L m) {n : Nat} {a : Addr} {vs ws : List V} {ds : List D} (ha : L[n]? = some a) (hv : H a = some (.lst vs)) (hi : IsL K L H ds ws) : Rep K (upd H a (.lst ws)) L (m.set n (.lst ds)) := by
  have kp : Kp H L (upd H a (.lst ws)) L := Kp.wr r ha hv
  refine ⟨by rw [List.length_set]; exact r.len, r.nd, fun j b o e1 e2 => ?_, kp.tabs r.tab, Clo.jm _ _ _ _ kp r.j⟩
  by_cases q : n = j
  · subst q
    rw [ha] at e1
    cases e1
    have hn : n < m.length := by rw [← r.len]; exact (List.getElem?_eq_some_iff.mp ha).1
    rw [List.getElem?_set_self hn] at e2
    cases e2
    exact ⟨ws, upd_same, kp.isL _ hi⟩
  · rw [List.getElem?_set_ne q] at e2
    have nb : b ≠ a := fun z => by
      rw [z] at e1
      exact q (nd_ix r.nd ha e1)
    exact OIs.mono kp (upd_ne nb) (r.ob j b o e1 e2)
theorem IsL.append {K L H} : ∀ {ds es : List D} {vs ws : List V}, IsL K L H ds vs → IsL K L H es ws → IsL K L H (ds ++ es) (vs ++ ws)
  | [], es, vs, ws, h, g => by rw [show vs = [] from h]; exact g
  | d :: ds, es, vs, ws, h, g => by
    obtain ⟨v, r, e, i, f⟩ := (show ∃ v r, vs = v :: r ∧ Is K L H d v ∧ IsL K L H ds r by simpa only [IsL] using h)
    subst e
    show IsL K L H (d :: (ds ++ es)) (v :: (r ++ ws))
    simp only [IsL]
    exact ⟨v, r ++ ws, rfl, i, IsL.append f g⟩
theorem IsL.one {K L H} {d : D} {v : V} (h : Is K L H d v) : IsL K L H [d] [v] := by
  simp only [IsL]
  exact ⟨v, [], rfl, h, rfl⟩
/-! ### comprehensions -/
def noex {α : Type} : Res α → Res α
  | .ok a m => .ok a m
  | _ => .bad
/-- one more item for the list at the handle n -/
def pushD (n : Nat) (x : D) (m : Mem) (k : Mem → Res D) : Res D := match m[n]? with
  | some (.lst acc) => if acc.length < 16777216 then k (m.set n (.lst (acc ++ [x]))) else .bad
  | _ => .bad
def compD (n : Nat) (still : Mem → Bool) (t : D → Env → Option Env) (tt : Env → Mem → Res Bool) (te : Env → Mem → Res D) (ρ : Env) : List D → Mem → Res D
  | [], m => if still m then .ok (.ref n) m else .bad
  | d :: ds, m => if still m then (match t d ρ with
    | none => .bad
    | some ρ1 => (noex (tt ρ1 m)).bind fun b m => match b with
      | true => (noex (te ρ1 m)).bind fun x m => pushD n x m (compD n still t tt te ρ ds)
      | false => compD n still t tt te ρ ds m) else .bad
def wipeE (ρ : Env) : List Nat → Env
  | [] => ρ
  | v :: vs => (wipeE ρ vs).set v none
def fComp (vs : List Nat) (f : Env → Mem → Res Src) (t : D → Env → Option Env) (tt : Env → Mem → Res Bool) (te : Env → Mem → Res D) : Env → Mem → Res D := fun ρ m =>
  (f ρ m).bind fun s m => compD m.length s.2 t tt te (wipeE ρ vs) s.1 (m ++ [.lst []])
theorem At.wipe {K σ H L ρ m} (a : At K σ H L ρ m) : ∀ vs : List Nat, At K (wipe σ vs) H L (wipeE ρ vs) m
  | [] => a
  | v :: vs => by
    have b := At.wipe a vs
    refine ⟨b.rep, ?_, fun i d e => ?_⟩
    · unfold L2.wipe wipeE
      rw [List.length_set, List.length_set]
      exact b.len
    · unfold wipeE at e
      by_cases q : v = i
      · subst q
        by_cases hv : v < (wipeE ρ vs).length
        · rw [List.getElem?_set_self hv] at e
          cases e
        · rw [List.getElem?_eq_none (by rw [List.length_set]; omega)] at e
          cases e
      · rw [List.getElem?_set_ne q] at e
        obtain ⟨u, h1, h2⟩ := b.sl i d e
        exact ⟨u, by unfold L2.wipe; rw [List.getElem?_set_ne q]; exact h1, h2⟩
theorem wipe_get (σ : St) (i : Nat) : ∀ vs : List Nat, (wipe σ vs)[i]? = if i ∈ vs ∧ i < σ.length then some none else σ[i]?
  | [] => by simp [wipe]
  | v :: vs => by
    unfold L2.wipe
    rw [List.getElem?_set, wipe_get σ i vs, wipe_length]
    by_cases q : v = i
    · subst q
      by_cases hi : v < σ.length
      · simp [hi]
      · simp [hi]
    · rw [if_neg q]
      have e : (i ∈ v :: vs ∧ i < σ.length) ↔ (i ∈ vs ∧ i < σ.length) := by
        simp [Ne.symm q]
      simp only [e]
theorem wipe_set {σ : St} {x : Option V} {i : Nat} {vs : List Nat} (h : i ∈ vs) : wipe ((wipe σ vs).set i x) vs = wipe σ vs := by
  apply List.ext_getElem?
  intro j
  rw [wipe_get, wipe_get, List.length_set, wipe_length, List.getElem?_set, wipe_get, wipe_length]
  by_cases hj : j ∈ vs ∧ j < σ.length
  · simp [hj]
  · by_cases q : i = j
    · subst q
      have hi : ¬ i < σ.length := fun z => hj ⟨h, z⟩
      simp [hi]
    · simp [hj, q]
/-- a target of a comprehension stores its own names -/
def TgW (g : TG) (vs : List Nat) : Prop := ∀ (v : V) (σ : St) (H : Hp) (Q Q' : St → Hp → Prop), g v (wipe σ vs) H Q → (∀ σ' H', wipe σ' vs = wipe σ vs → Q σ' H' → Q' σ' H') → g v (wipe σ vs) H Q'
theorem tw_name {i : Nat} {vs : List Nat} (h : i ∈ vs) : TgW (gName i) vs := fun v σ H Q Q' q k => k _ _ (wipe_set h) q
section
variable {X : Cx} {W : WX} {elt tg iter : Expr} {ifs : List Expr} {scope : Scope} {wi : TI} {g : TG} {f : Env → Mem → Res Src} {t : D → Env → Option Env} {ft : Env → Mem → Res Bool} {fe : Env → Mem → Res D} {pos : Pos}
abbrev W0 : WX := fun _ _ _ _ => False
theorem Fin.noex {K mg} {α β : Type} {rel : Rel α β} {W : XK} {H : Hp} {L : List Addr} {r : Res α} {Q : β → Hp → Prop} (h : Fin K mg rel W H L (noex r) Q) : Fin K mg rel (fun _ _ _ => False) H L r Q := by
  cases r with
  | ok a m => exact h
  | ex e m => exact h.elim
  | bad => exact h
theorem comp_ok {K : PySem.W.Frag} {mg : Str → Option Value} {WK : XK} {J : It} {ds : List D} {still : Mem → Bool} {H1 : Hp} {L1 : List Addr} {ρ : Env} {m1 : Mem} {σ : St} {vs : List Nat} {Q : VK}
    (w : Walk K J ds still H1 L1) (tg : TgS K g t) (tw : TgW g vs) (a : At K σ H1 L1 ρ m1)
    (h : Fin K mg (relV K) WK H1 L1 (compD m1.length still t ft fe (wipeE ρ vs) ds (m1 ++ [.lst []])) Q) (D0 : Addr) (hD : H1 D0 = none) :
    ∃ Wv : Nat → Nat → Hp → Prop, (∃ k, Wv 0 k (upd H1 D0 (.lst []))) ∧ ∀ i k H, Wv i k H →
      (J.stop i H ∧ Q (.ref D0) H) ∨ (J.go i H ∧ ∃ Nx : Hp → Prop, (∀ H', Nx H' → ∃ k', k' < k ∧ Wv (i + 1) k' H') ∧ ∀ x H', J.yld i H x H' → g x (wipe σ vs) H' fun σ2 H2 => wipe σ2 vs = wipe σ vs ∧ tT K mg W0 ft σ2 H2 fun b H3 =>
        if b = true then tE K mg W0 fe σ2 H3 fun y H4 => ∃ acc, H4 D0 = some (.lst acc) ∧ acc.length < sizeLine ∧ Nx (upd H4 D0 (.lst (acc ++ [y]))) else Nx H3) := by
  have k0 : Kp H1 L1 (upd H1 D0 (.lst [])) (L1 ++ [D0]) := Kp.newH hD
  have r0 : Rep K (upd H1 D0 (.lst [])) (L1 ++ [D0]) (m1 ++ [.lst []]) := a.rep.newH hD ⟨[], upd_same, rfl⟩
  have n0 : (L1 ++ [D0])[m1.length]? = some D0 := by rw [← a.rep.len, List.getElem?_concat_length]
  have w0 := w.mono k0
  have a0 : At K (wipe σ vs) (upd H1 D0 (.lst [])) (L1 ++ [D0]) (wipeE ρ vs) (m1 ++ [.lst []]) := (a.wipe vs).mono k0 r0
  refine ⟨fun i k H => k = ds.length - i ∧ i ≤ ds.length ∧ ∃ L m, Kp (upd H1 D0 (.lst [])) (L1 ++ [D0]) H L ∧ Rep K H L m ∧ Fin K mg (relV K) WK H L (compD m1.length still t ft fe (wipeE ρ vs) (ds.drop i) m) Q,
    ⟨ds.length, rfl, Nat.zero_le _, _, _, Kp.refl _ _, r0, h.mono k0⟩, ?_⟩
  rintro i k H ⟨rfl, hi, L, m, kp, r, h⟩
  by_cases hlt : i < ds.length
  · rw [List.drop_eq_getElem_cons hlt] at h
    simp only [compD] at h
    cases hs : still m with
    | false =>
      rw [hs, if_neg Bool.false_ne_true] at h
      exact h.elim
    | true =>
      rw [hs, if_pos rfl] at h
      obtain ⟨go, _⟩ := w0.run H L m kp r hs
      obtain ⟨hgo, hy⟩ := go i hlt
      cases ht : t ds[i] (wipeE ρ vs) with
      | none =>
        simp only [ht] at h
        exact h.elim
      | some ρ1 =>
        simp only [ht] at h
        refine .inr ⟨hgo, fun H' => ∃ L' m', Kp (upd H1 D0 (.lst [])) (L1 ++ [D0]) H' L' ∧ Rep K H' L' m' ∧ Fin K mg (relV K) WK H' L' (compD m1.length still t ft fe (wipeE ρ vs) (ds.drop (i + 1)) m') Q, fun H' ⟨L', m', k1, r1, h1⟩ => ⟨ds.length - (i + 1), by omega, rfl, hlt, L', m', k1, r1, h1⟩, fun x H' y => ?_⟩
        obtain ⟨kpy, rpy, d, ed, id⟩ := hy x H' y
        replace h := Fin.mono h kpy
        replace kp := kp.trans kpy
        replace r := rpy
        clear hy
        have ed' : ds[i] = d := by
          rw [List.getElem?_eq_getElem hlt] at ed
          exact Option.some.inj ed
        subst ed'
        refine tw x σ H' _ _ (tg _ x _ H' L _ ρ1 m (fun σ2 H2 => At K σ2 H2 L ρ1 m ∧ H2 = H') (a0.mono kp r) id ht fun σ2 a2 => ⟨a2, rfl⟩) ?_
        rintro σ2 H2 hw ⟨a2, rfl⟩
        refine ⟨hw, L, ρ1, m, a2, ?_⟩
        refine (Fin.noex (Fin.bind h (rel := relB))).imp ?_
        rintro b H3 ⟨b', m3, L3, k3, r3, i3, h3⟩
        have eb : b = b' := i3
        subst eb
        cases b with
        | false =>
          rw [if_neg Bool.false_ne_true]
          exact ⟨L3, m3, kp.trans k3, r3, h3⟩
        | true =>
          rw [if_pos rfl]
          refine ⟨L3, ρ1, m3, a2.mono k3 r3, ?_⟩
          refine (Fin.noex (Fin.bind h3 (rel := relV K))).imp ?_
          rintro v H4 ⟨d4, m4, L4, k4, r4, i4, h4⟩
          unfold pushD at h4
          cases q : m4[m1.length]? with
          | none =>
            simp only [q] at h4
            exact h4.elim
          | some o =>
            cases o with
            | lst acc =>
              simp only [q] at h4
              by_cases hz : acc.length < 16777216
              · rw [if_pos hz] at h4
                obtain ⟨a', ws, e1, e2, e3⟩ := r4.lst q
                have ea : a' = D0 := by
                  have := (kp.trans (k3.trans k4)).at n0
                  rw [e1] at this
                  exact Option.some.inj this
                subst ea
                refine ⟨ws, e2, by rw [e3.length, sizeLine_eq]; exact hz, L4, _, (kp.trans (k3.trans k4)).trans (Kp.wr r4 e1 e2), r4.wr e1 e2 (e3.append (IsL.one i4)), h4.mono (Kp.wr r4 e1 e2)⟩
              · rw [if_neg hz] at h4
                exact h4.elim
            | dic ks ds =>
              simp only [q] at h4
              exact h4.elim
  · have e : i = ds.length := by omega
    subst e
    rw [List.drop_eq_nil_of_le (Nat.le_refl _)] at h
    simp only [compD] at h
    cases hs : still m with
    | false =>
      rw [hs, if_neg Bool.false_ne_true] at h
      exact h.elim
    | true =>
      rw [hs, if_pos rfl] at h
      obtain ⟨_, stop⟩ := w0.run H L m kp r hs
      refine .inl ⟨stop, Fin.ok (rel := relV K) h r ?_⟩
      simp only [relV, Is]
      exact ⟨D0, kp.at n0, rfl⟩
theorem m_lc (own : List (Str × Nat)) (hc : X.calm = true) (hN : X.N.Nodup) (hi : PI X tg iter wi) (hw : WalkI X.K X.mg W wi f) (ok : BlkOk X.N X.env.scope scope own) (htg : TgS X.K g t) (htw : TgW g (own.map (·.2)))
    (hg : ∀ (s : Shared) (H : Hp) (C : Addr) (cl : List (Str × Addr)) (fp : List Addr), PG (X.blk s H scope (compEnvC scope cl C X.env) fp) tg g)
    (ht : ∀ (s : Shared) (H : Hp) (C : Addr) (cl : List (Str × Addr)) (fp : List Addr), PTs (X.blk s H scope (compEnvC scope cl C X.env) fp) ifs (tT X.K X.mg W0 ft))
    (he : ∀ (s : Shared) (H : Hp) (C : Addr) (cl : List (Str × Addr)) (fp : List Addr), PE (X.blk s H scope (compEnvC scope cl C X.env) fp) elt (tE X.K X.mg W0 fe))
    (hs : ∀ x, foldedSetIterable iter X.env x = pure x := by intro _; rfl) :
    PE X (.ListComp elt [{ target := tg, iter := iter, ifs := ifs, is_async := 0 }] scope pos) (tE X.K X.mg W (fComp (own.map (·.2)) f t ft fe)) := by
  refine PE.of (pe_lc hc hN hi ok hg ht he hs) fun σ H Q h => ?_
  obtain ⟨L, ρ, m, a, h⟩ := h
  refine hw σ H _ L ρ m a ((Fin.bind (rel := relJ X.K) h).imp ?_)
  rintro J H1 ⟨s, m1, L1, k1, r1, w, h1⟩
  exact fun D0 hD => comp_ok w htg htw (a.mono k1 r1) h1 D0 hD
def ftYes : Env → Mem → Res Bool := fun _ m => .ok true m
theorem m_noifs : PTs X [] (tT X.K X.mg W ftYes) := by
  refine ⟨fun pins s σ H Q I h => pts_nil.run pins s σ H Q I ?_⟩
  obtain ⟨L, ρ, m, a, h⟩ := h
  exact Fin.ok (K := X.K) (mg := X.mg) (rel := relB) h a.rep rfl
theorem m_if1 {c : Expr} (h : PT X c (tT X.K X.mg W ft)) : PTs X [c] (tT X.K X.mg W ft) := pts_one h
end
end Mn
end
section
set_option Elab.async false
set_option Elab.async false
set_option linter.all false
set_option maxRecDepth 100000
set_option maxHeartbeats 2000000
namespace Mn
open PySem L2
variable [Clo]

/-! ### what is walked: lists, tuples, ranges -/
theorem IsL.get {K L H} : ∀ {ds : List D} {vs : List V} {i : Nat} {d : D}, IsL K L H ds vs → ds[i]? = some d → ∃ v, vs[i]? = some v ∧ Is K L H d v
  | [], _, _, _, _, e => by simp at e
  | x :: ds, vs, i, d, h, e => by
    obtain ⟨v, r, q, a, f⟩ := (show ∃ v r, vs = v :: r ∧ Is K L H x v ∧ IsL K L H ds r by simpa only [IsL] using h)
    subst q
    cases i with
    | zero =>
      simp at e
      subst e
      exact ⟨v, rfl, a⟩
    | succ i =>
      obtain ⟨u, h1, h2⟩ := IsL.get (i := i) (d := d) f (by simpa using e)
      exact ⟨u, by simpa using h1, h2⟩
/-- lists, tuples, texts aside -/
def srcD : D → Mem → Option Src
  | .tup ds, _ => some (ds, fun _ => true)
  | .rol ds, _ => some (ds, fun _ => true)
  | .ref n, m => match m[n]? with
    | some (.lst ds) => some (ds, fun m' => decide (m'[n]? = some (.lst ds)))
    | _ => none
  | _, _ => none
def iSeq (K : PySem.W.Frag) (tl : TE) : TI := fun σ H R => tl σ H fun x H1 => (∃ a, x = .ref a ∧ (∃ xs, SqL K H1 a xs) ∧ R (Itl K a) H1) ∨ (∃ a, x = .ref a ∧ (∃ xs, SqT K H1 a xs) ∧ R (Itt K a) H1)
theorem pi_seq {X : Cx} {tg l : Expr} {tl : TE} (hl : PE X l tl) : PI X tg l (iSeq X.K tl) := by
  refine ⟨fun pins s σ H R I h => ?_⟩
  refine thn (hl.run pins s σ H _ I h) fun v s1 ⟨x, H1, I1, r1, q1⟩ => ?_
  rcases q1 with ⟨a, e, ⟨xs, hq⟩, q⟩ | ⟨a, e, ⟨xs, hq⟩, q⟩
  · subst e
    cases r1
    obtain ⟨its, rv, p, hz⟩ := I1.list hq
    refine wpAny_pyIter_list p.isList ?_
    refine ⟨s1.heap.objs.size, [s1.heap.objs.size], _, _, H1, rfl, I1.kept (t' := s1.toks) fun b o e => Heap.get?_push_of_some _ e, turn_list a _, ⟨_, Heap.get?_push_size _ rfl, rfl, rfl⟩, fun b hb => ?_, q⟩
    have e : b = s1.heap.objs.size := by simpa using hb
    subst e
    exact I1.fpOk (Nat.le_refl _) (I1.hok.fresh (Nat.le_refl _))
  · subst e
    cases r1
    obtain ⟨its, rv, p, hz⟩ := I1.tuple hq
    refine wpAny_pyIter_tuple (show s1.heap.IsTuple a its.toArray from p) ?_
    refine ⟨s1.heap.objs.size, [s1.heap.objs.size], _, _, H1, rfl, I1.kept (t' := s1.toks) fun b o e => Heap.get?_push_of_some _ e, turn_tuple a _, ⟨_, Heap.get?_push_size _ rfl, rfl, rfl⟩, fun b hb => ?_, q⟩
    have e : b = s1.heap.objs.size := by simpa using hb
    subst e
    exact I1.fpOk (Nat.le_refl _) (I1.hok.fresh (Nat.le_refl _))
theorem sql_inj {H : Hp} {a : Addr} {xs ys : List V} (h : Rd H a (.lst xs)) (g : Rd H a (.lst ys)) : xs = ys := by
  rcases h with h | ⟨o, h⟩ <;> rcases g with g | ⟨u, g⟩ <;> rw [h] at g <;> cases g <;> rfl
/-- a walk of a list, however it is read -/
theorem walk_l {K : PySem.W.Frag} {a : Addr} {ds : List D} {still : Mem → Bool} {H0 L0} (h : ∀ H L m, Kp H0 L0 H L → Rep K H L m → still m = true → ∃ vs, SqL K H a vs ∧ IsL K L H ds vs) : Walk K (Itl K a) ds still H0 L0 := by
  refine ⟨fun H L m kp r s => ?_⟩
  obtain ⟨vs, h1, h2⟩ := h H L m kp r s
  refine ⟨fun i hi => ?_, ⟨vs, h1, by rw [h2.length]; exact Nat.le_refl _⟩⟩
  obtain ⟨v, e1, e2⟩ := h2.get (List.getElem?_eq_getElem hi)
  exact ⟨⟨vs, v, h1, e1⟩, fun x H' ⟨eH, hx⟩ => by
    subst eH
    refine ⟨Kp.refl _ _, r, ds[i], List.getElem?_eq_getElem hi, ?_⟩
    have := hx vs h1
    rw [e1] at this
    cases this
    exact e2⟩
theorem walk_t {K : PySem.W.Frag} {a : Addr} {ds : List D} {still : Mem → Bool} {H0 L0} (h : ∀ H L m, Kp H0 L0 H L → Rep K H L m → still m = true → ∃ vs, SqT K H a vs ∧ IsL K L H ds vs) : Walk K (Itt K a) ds still H0 L0 := by
  refine ⟨fun H L m kp r s => ?_⟩
  obtain ⟨vs, h1, h2⟩ := h H L m kp r s
  refine ⟨fun i hi => ?_, ⟨vs, h1, by rw [h2.length]; exact Nat.le_refl _⟩⟩
  obtain ⟨v, e1, e2⟩ := h2.get (List.getElem?_eq_getElem hi)
  exact ⟨⟨vs, v, h1, e1⟩, fun x H' ⟨eH, hx⟩ => by
    subst eH
    refine ⟨Kp.refl _ _, r, ds[i], List.getElem?_eq_getElem hi, ?_⟩
    have := hx vs h1
    rw [e1] at this
    cases this
    exact e2⟩
def fSeq (f : Env → Mem → Res D) : Env → Mem → Res Src := fun ρ m => (f ρ m).bind fun d m => match srcD d m with
  | none => .bad
  | some s => .ok s m
theorem wi_seq {K : PySem.W.Frag} {mg : Str → Option Value} {W : WX} {f : Env → Mem → Res D} : WalkI K mg W (iSeq K (tE K mg W f)) (fSeq f) := by
  intro σ H R L ρ m a h
  refine ⟨L, ρ, m, a, (Fin.bind h).imp ?_⟩
  rintro x H1 ⟨d, m1, L1, k1, r1, i1, h1⟩
  cases e : srcD d m1 with
  | none =>
    simp only [e] at h1
    exact h1.elim
  | some s =>
    simp only [e] at h1
    have q : ∀ J, Walk K J s.1 s.2 H1 L1 → R J H1 := fun J w => Fin.ok (rel := relJ K) h1 r1 w
    cases d with
    | tup ds =>
      obtain ⟨a, vs, e1, f1, g1⟩ := (show ∃ a vs, x = .ref a ∧ FzT K L1 H1 a vs ∧ IsL K L1 H1 ds vs by simpa only [Is] using i1)
      cases e
      exact .inr ⟨a, e1, ⟨vs, f1.sq⟩, q _ (walk_t fun H L m k r s => ⟨vs, (k.fzT f1).sq, k.isL _ g1⟩)⟩
    | rol ds =>
      obtain ⟨a, vs, e1, f1, g1⟩ := (show ∃ a vs, x = .ref a ∧ FzL K L1 H1 a vs ∧ IsL K L1 H1 ds vs by simpa only [Is] using i1)
      cases e
      exact .inl ⟨a, e1, ⟨vs, f1.sq⟩, q _ (walk_l fun H L m k r s => ⟨vs, (k.fzL f1).sq, k.isL _ g1⟩)⟩
    | ref n =>
      obtain ⟨a, e1, e2⟩ := (show ∃ a, L1[n]? = some a ∧ x = .ref a by simpa only [Is] using i1)
      simp only [srcD] at e
      cases z : m1[n]? with
      | none =>
        simp only [z] at e
        cases e
      | some o =>
        cases o with
        | lst ds =>
          simp only [z] at e
          cases e
          obtain ⟨a', vs, e3, e4, e5⟩ := r1.lst z
          rw [e1] at e3
          cases e3
          refine .inl ⟨a, e2, ⟨vs, SqL.of e4⟩, q _ (walk_l fun H L m k r s => ?_)⟩
          obtain ⟨a', ws, e6, e7, e8⟩ := r.lst (of_decide_eq_true s)
          rw [k.at e1] at e6
          cases e6
          exact ⟨ws, SqL.of e7, e8⟩
        | dic ks ds =>
          simp only [z] at e
          cases e
    | _ => cases e
/-- range(n), range(a, b): the argument list in the place of the thing -/
def rangeD (lo hi : Int) : List D := (List.range (hi - lo).toNat).map fun i : Nat => D.int (lo + i)
def srcR : List D → Option (List D)
  | [.int j] => if -(2 ^ 62) ≤ j ∧ j < 2 ^ 62 then some (rangeD 0 j) else none
  | [.int i, .int j] => if -(2 ^ 62) ≤ i ∧ i < 2 ^ 62 ∧ -(2 ^ 62) ≤ j ∧ j < 2 ^ 62 then some (rangeD i j) else none
  | _ => none
def fRng (fs : Env → Mem → Res (List D)) : Env → Mem → Res Src := fun ρ m => (fs ρ m).bind fun ds m => match srcR ds with
  | none => .bad
  | some r => .ok (r, fun _ => true) m
theorem walk_r {K : PySem.W.Frag} {lo hi : Int} {still : Mem → Bool} {H0 L0} : Walk K (Itr lo (hi - lo).toNat) (rangeD lo hi) still H0 L0 := by
  refine ⟨fun H L m kp r s => ⟨fun i hi' => ?_, ?_⟩⟩
  · have hi2 : i < (hi - lo).toNat := by
      unfold rangeD at hi'
      rw [List.length_map, List.length_range] at hi'
      exact hi'
    refine ⟨hi2, fun x H' y => ?_⟩
    obtain ⟨e1, e2⟩ := y
    subst e1
    refine ⟨Kp.refl _ _, r, .int (lo + i), ?_, e2⟩
    unfold rangeD
    rw [List.getElem?_map, List.getElem?_range hi2]
    rfl
  · show (hi - lo).toNat ≤ _
    unfold rangeD
    rw [List.length_map, List.length_range]
    exact Nat.le_refl _
theorem wi_rng1 {K : PySem.W.Frag} {mg : Str → Option Value} {W : WX} {fs : Env → Mem → Res (List D)} (hl : ∀ ρ m ds m', fs ρ m = .ok ds m' → ds.length = 1) : WalkI K mg W (iRng1 (tA K mg W fs)) (fRng fs) := by
  intro σ H R L ρ m a h
  refine ⟨L, ρ, m, a, ?_⟩
  unfold fRng at h
  have hl' := hl ρ m
  revert h
  cases hq : fs ρ m with
  | bad => exact fun h => h.elim
  | ex e m' => exact fun h => h
  | ok ds m' =>
    intro h vs H1 L1 k1 r1 i1
    have h1 := Fin.mono h k1
    obtain ⟨d, rfl⟩ : ∃ d, ds = [d] := by
      have := hl' ds m' hq
      match ds, this with
      | [d], _ => exact ⟨d, rfl⟩
    simp only [Res.bind] at h1
    cases d with
    | int j =>
      simp only [srcR] at h1
      by_cases hz : -(2 ^ 62) ≤ j ∧ j < 2 ^ 62
      · rw [if_pos hz] at h1
        have q : ∀ J, Walk K J (rangeD 0 j) (fun _ => true) H1 L1 → R J H1 := fun J w => Fin.ok (rel := relJ K) h1 r1 w
        obtain ⟨v, r, e1, e2, e3⟩ := (show ∃ v r, vs = v :: r ∧ Is K L1 H1 (.int j) v ∧ IsL K L1 H1 [] r by simpa only [relA, IsL] using i1)
        refine ⟨j, by rw [e1, show v = .int j from e2, show r = [] from e3], hz.1, hz.2, ?_⟩
        have w := walk_r (K := K) (lo := 0) (hi := j) (still := fun _ => true) (H0 := H1) (L0 := L1)
        rw [Int.sub_zero] at w
        exact q _ w
      · rw [if_neg hz] at h1
        exact h1.elim
    | _ => exact (show False from h1).elim
theorem wi_rng2 {K : PySem.W.Frag} {mg : Str → Option Value} {W : WX} {fs : Env → Mem → Res (List D)} (hl : ∀ ρ m ds m', fs ρ m = .ok ds m' → ds.length = 2) : WalkI K mg W (iRng2 (tA K mg W fs)) (fRng fs) := by
  intro σ H R L ρ m a h
  refine ⟨L, ρ, m, a, ?_⟩
  unfold fRng at h
  have hl' := hl ρ m
  revert h
  cases hq : fs ρ m with
  | bad => exact fun h => h.elim
  | ex e m' => exact fun h => h
  | ok ds m' =>
    intro h vs H1 L1 k1 r1 i1
    have h1 := Fin.mono h k1
    obtain ⟨d, d2, rfl⟩ : ∃ d d2, ds = [d, d2] := by
      have := hl' ds m' hq
      match ds, this with
      | [d, d2], _ => exact ⟨d, d2, rfl⟩
    simp only [Res.bind] at h1
    cases d with
    | int i =>
      cases d2 with
      | int j =>
        simp only [srcR] at h1
        by_cases hz : -(2 ^ 62) ≤ i ∧ i < 2 ^ 62 ∧ -(2 ^ 62) ≤ j ∧ j < 2 ^ 62
        · rw [if_pos hz] at h1
          have q : ∀ J, Walk K J (rangeD i j) (fun _ => true) H1 L1 → R J H1 := fun J w => Fin.ok (rel := relJ K) h1 r1 w
          obtain ⟨v, r, e1, e2, v2, r2, e3, e4, e5⟩ := (show ∃ v r, vs = v :: r ∧ Is K L1 H1 (.int i) v ∧ ∃ v2 r2, r = v2 :: r2 ∧ Is K L1 H1 (.int j) v2 ∧ IsL K L1 H1 [] r2 by simpa only [relA, IsL] using i1)
          exact ⟨i, j, by rw [e1, show v = .int i from e2, e3, show v2 = .int j from e4, show r2 = [] from e5], hz, q _ walk_r⟩
        · rw [if_neg hz] at h1
          exact h1.elim
      | _ => exact (show False from h1).elim
    | _ => exact (show False from h1).elim
theorem alen1 {f : Env → Mem → Res D} : ∀ ρ m ds m', aCons f aNil ρ m = .ok ds m' → ds.length = 1 := by
  intro ρ m ds m' h
  unfold aCons aNil at h
  cases q : f ρ m with
  | ok d m1 => rw [q] at h; simp only [Res.bind] at h; cases h; rfl
  | ex e m1 => rw [q] at h; cases h
  | bad => rw [q] at h; cases h
theorem alen2 {f g : Env → Mem → Res D} : ∀ ρ m ds m', aCons f (aCons g aNil) ρ m = .ok ds m' → ds.length = 2 := by
  intro ρ m ds m' h
  unfold aCons aNil at h
  cases q : f ρ m with
  | ok d m1 =>
    rw [q] at h
    simp only [Res.bind] at h
    cases q2 : g ρ m1 with
    | ok d2 m2 => rw [q2] at h; cases h; rfl
    | ex e m1 => rw [q2] at h; cases h
    | bad => rw [q2] at h; cases h
  | ex e m1 => rw [q] at h; cases h
  | bad => rw [q] at h; cases h
end Mn
end
section
set_option Elab.async false
set_option Elab.async false
set_option linter.all false
set_option maxRecDepth 100000
set_option maxHeartbeats 2000000
namespace Mn
open PySem L2
variable [Clo]

section
variable {K : PySem.W.Frag} {mg : Str → Option Value}
theorem is_tup {L H} {ds : List D} {v : V} (h : Is K L H (.tup ds) v) : ∃ a vs, v = .ref a ∧ FzT K L H a vs ∧ IsL K L H ds vs := by simpa only [Is] using h
theorem is_rol {L H} {ds : List D} {v : V} (h : Is K L H (.rol ds) v) : ∃ a vs, v = .ref a ∧ FzL K L H a vs ∧ IsL K L H ds vs := by simpa only [Is] using h
theorem is_ref {L H} {n : Nat} {v : V} (h : Is K L H (.ref n) v) : ∃ a, L[n]? = some a ∧ v = .ref a := by simpa only [Is] using h
theorem Rep.lst' {H L m} (r : Rep K H L m) {n : Nat} {a : Addr} {ds : List D} (e : m[n]? = some (.lst ds)) (ha : L[n]? = some a) : ∃ vs, H a = some (.lst vs) ∧ IsL K L H ds vs := by
  obtain ⟨a', vs, e1, e2, e3⟩ := r.lst e
  rw [ha] at e1
  cases e1
  exact ⟨vs, e2, e3⟩
def newL (acc : List D) (m : Mem) : Res D := .ok (.ref m.length) (m ++ [.lst acc])
/-! ### arithmetic -/
def gAdd : D → D → Mem → Res D
  | .int a, .int b, m => .ok (.int (a + b)) m
  | .str a, .str b, m => if a.length + b.length ≤ 16777216 then .ok (.str (a ++ b)) m else .bad
  | .tup a, .tup b, m => if a.length + b.length ≤ 16777216 then .ok (.tup (a ++ b)) m else .bad
  | .ref i, .ref j, m => match m[i]?, m[j]? with
    | some (.lst a), some (.lst b) => if a.length + b.length ≤ 16777216 then newL (a ++ b) m else .bad
    | _, _ => .bad
  | _, _, _ => .bad
abbrev rAddA (K : PySem.W.Frag) : R2 := fun x y H Q => (rI0 fun i j => .int (i + j)) x y H Q ∨ (∃ i j, x = .str i ∧ y = .str j ∧ i.length + j.length ≤ sizeLine ∧ Q (.str (i ++ j)) H) ∨ rCatA K x y H Q ∨ rCat x y H Q
theorem op_addA {X : Cx} : OpR X (binaryOp .Add) (rAddA X.K) := op_add.or (op_add_str.or (op_catA.or op_cat))
theorem os_add : OpS K mg (rAddA K) gAdd := by
  intro H L m dx dy x y W Q r ix iy h
  cases dx with
  | int a =>
    cases dy with
    | int b => exact .inl ⟨a, b, ix, iy, Fin.ok (rel := relV K) h r rfl⟩
    | _ => exact (show False from h).elim
  | str a =>
    cases dy with
    | str b =>
      simp only [gAdd] at h
      by_cases hz : a.length + b.length ≤ 16777216
      · rw [if_pos hz] at h
        exact .inr (.inl ⟨a, b, ix, iy, by rw [sizeLine_eq]; exact hz, Fin.ok (rel := relV K) h r rfl⟩)
      · rw [if_neg hz] at h
        exact h.elim
    | _ => exact (show False from h).elim
  | tup a =>
    cases dy with
    | tup b =>
      simp only [gAdd] at h
      by_cases hz : a.length + b.length ≤ 16777216
      · rw [if_pos hz] at h
        obtain ⟨p, vs, e1, f1, g1⟩ := is_tup ix
        obtain ⟨q, ws, e2, f2, g2⟩ := is_tup iy
        refine .inr (.inr (.inl ⟨p, q, vs, ws, e1, e2, f1.sq, f2.sq, by rw [g1.length, g2.length, sizeLine_eq]; exact hz, fun z => ?_, fun _ z => ?_, fun _ _ u hu => tup_new r (g1.append g2) h hu⟩))
        · subst z
          have ea : a = [] := by
            cases a with
            | nil => rfl
            | cons d a => have := g1.length; simp at this
          rw [ea, List.nil_append] at h
          rw [← e2]
          exact Fin.ok (rel := relV K) h r iy
        · subst z
          have eb : b = [] := by
            cases b with
            | nil => rfl
            | cons d a => have := g2.length; simp at this
          rw [eb, List.append_nil] at h
          rw [← e1]
          exact Fin.ok (rel := relV K) h r ix
      · rw [if_neg hz] at h
        exact h.elim
    | _ => exact (show False from h).elim
  | ref i =>
    cases dy with
    | ref j =>
      simp only [gAdd] at h
      obtain ⟨p, e1, q1⟩ := is_ref ix
      obtain ⟨q, e2, q2⟩ := is_ref iy
      split at h
      · rename_i a b z1 z2
        obtain ⟨vs, h1, g1⟩ := r.lst' z1 e1
        obtain ⟨ws, h2, g2⟩ := r.lst' z2 e2
        by_cases hz : a.length + b.length ≤ 16777216
        · rw [if_pos hz] at h
          exact .inr (.inr (.inr ⟨p, q, vs, ws, q1, q2, h1, h2, by rw [g1.length, g2.length, sizeLine_eq]; exact hz, fun u hu => lst_new r (g1.append g2) h hu⟩))
        · rw [if_neg hz] at h
          exact h.elim
      · exact h.elim
    | _ => exact (show False from h).elim
  | _ => cases dy <;> exact (show False from h).elim
/-- ints alone -/
def gI (C : Int → Int → Bool) (g : Int → Int → D) : D → D → Mem → Res D
  | .int a, .int b, m => if C a b = true then .ok (g a b) m else .bad
  | _, _, _ => .bad
theorem os_I {P : Int → Int → Prop} {C : Int → Int → Bool} {g : Int → Int → D} {gv : Int → Int → V} (hC : ∀ a b, C a b = true → P a b) (hg : ∀ a b L H, Is K L H (g a b) (gv a b)) : OpS K mg (rI P gv) (gI C g) := by
  intro H L m dx dy x y W Q r ix iy h
  cases dx with
  | int a =>
    cases dy with
    | int b =>
      simp only [gI] at h
      by_cases hz : C a b = true
      · rw [if_pos hz] at h
        exact ⟨a, b, ix, iy, hC a b hz, Fin.ok (rel := relV K) h r (hg a b L H)⟩
      · rw [if_neg hz] at h
        exact h.elim
    | _ => exact (show False from h).elim
  | _ => cases dy <;> exact (show False from h).elim
theorem os_I0 {g : Int → Int → D} {gv : Int → Int → V} (hg : ∀ a b L H, Is K L H (g a b) (gv a b)) : OpS K mg (rI0 gv) (gI (fun _ _ => true) g) := by
  intro H L m dx dy x y W Q r ix iy h
  cases dx with
  | int a =>
    cases dy with
    | int b =>
      simp only [gI, if_true] at h
      exact ⟨a, b, ix, iy, Fin.ok (rel := relV K) h r (hg a b L H)⟩
    | _ => exact (show False from h).elim
  | _ => cases dy <;> exact (show False from h).elim
def gSub := gI (fun _ _ => true) fun a b => .int (a - b)
theorem os_sub : OpS K mg (rI0 fun i j => .int (i - j)) gSub := os_I0 fun _ _ _ _ => rfl
def cMul (a b : Int) : Bool := decide ((-18446744073709551616 < a ∧ a < 18446744073709551616) ∨ (-18446744073709551616 < b ∧ b < 18446744073709551616))
def gMul := gI cMul fun a b => .int (a * b)
theorem os_mul : OpS K mg (rI CMul fun i j => .int (i * j)) gMul := os_I (fun a b h => by
  have h' := of_decide_eq_true h
  show (-(2 ^ 64) < a ∧ a < 2 ^ 64) ∨ (-(2 ^ 64) < b ∧ b < 2 ^ 64)
  omega) fun _ _ _ _ => rfl
def gMod := gI (fun _ b => decide (0 < b)) fun a b => .int (a % b)
theorem os_mod : OpS K mg (rI (fun _ j => 0 < j) fun i j => .int (i % j)) gMod := os_I (fun a b h => of_decide_eq_true h) fun _ _ _ _ => rfl
def gDiv := gI (fun _ b => decide (0 < b ∧ b < 1073741824)) fun a b => .int (a / b)
theorem os_div : OpS K mg (rI CDiv fun i j => .int (i / j)) gDiv := os_I (fun a b h => (show 0 < b ∧ b < 1073741824 from of_decide_eq_true h)) fun _ _ _ _ => rfl
def gPow := gI (fun a b => decide (0 ≤ b ∧ b ≤ 1000000 ∧ a.natAbs < 18446744073709551616)) fun a b => .int (a ^ b.toNat)
theorem os_pow : OpS K mg (rI CPow fun i j => .int (i ^ j.toNat)) gPow := os_I (fun a b h => by
  have h' := of_decide_eq_true h
  refine ⟨h'.1, h'.2.1, ?_⟩
  exact h'.2.2) fun _ _ _ _ => rfl
/-! ### comparisons -/
def gCmp (p : Int → Int → Bool) (q : List Nat → List Nat → Bool) : D → D → Mem → Res D
  | .int a, .int b, m => .ok (.bl (p a b)) m
  | .str a, .str b, m => .ok (.bl (q a.cps.toList b.cps.toList)) m
  | _, _, _ => .bad
theorem os_cmp {p : Int → Int → Bool} {q : List Nat → List Nat → Bool} : OpS K mg (fun x y H Q => (rI0 fun i j => .bl (p i j)) x y H Q ∨ ∃ i j, x = .str i ∧ y = .str j ∧ Q (.bl (q i.cps.toList j.cps.toList)) H) (gCmp p q) := by
  intro H L m dx dy x y W Q r ix iy h
  cases dx with
  | int a =>
    cases dy with
    | int b => exact .inl ⟨a, b, ix, iy, Fin.ok (rel := relV K) h r rfl⟩
    | _ => exact (show False from h).elim
  | str a =>
    cases dy with
    | str b => exact .inr ⟨a, b, ix, iy, Fin.ok (rel := relV K) h r rfl⟩
    | _ => exact (show False from h).elim
  | _ => cases dy <;> exact (show False from h).elim
def gLt := gCmp (fun i j => decide (i < j)) (fun a b => decide (a < b))
def gLe := gCmp (fun i j => decide (i ≤ j)) (fun a b => !decide (b < a))
def gGt := gCmp (fun i j => decide (j < i)) (fun a b => decide (b < a))
def gGe := gCmp (fun i j => decide (j ≤ i)) (fun a b => !decide (a < b))
abbrev rCmp (p : Int → Int → Bool) (q : List Nat → List Nat → Bool) : R2 := fun x y H Q => (rI0 fun i j => .bl (p i j)) x y H Q ∨ ∃ i j, x = .str i ∧ y = .str j ∧ Q (.bl (q i.cps.toList j.cps.toList)) H
theorem op_ltA {X : Cx} : OpR X (compareOp .Lt) (rCmp (fun i j => decide (i < j)) (fun a b => decide (a < b))) := op_lt.or op_lt_str
theorem op_leA {X : Cx} : OpR X (compareOp .LtE) (rCmp (fun i j => decide (i ≤ j)) (fun a b => !decide (b < a))) := op_le.or op_le_str
theorem op_gtA {X : Cx} : OpR X (compareOp .Gt) (rCmp (fun i j => decide (j < i)) (fun a b => decide (b < a))) := op_gt.or op_gt_str
theorem op_geA {X : Cx} : OpR X (compareOp .GtE) (rCmp (fun i j => decide (j ≤ i)) (fun a b => !decide (a < b))) := op_ge.or op_ge_str
theorem os_lt : OpS K mg (rCmp (fun i j => decide (i < j)) (fun a b => decide (a < b))) gLt := os_cmp
theorem os_le : OpS K mg (rCmp (fun i j => decide (i ≤ j)) (fun a b => !decide (b < a))) gLe := os_cmp
theorem os_gt : OpS K mg (rCmp (fun i j => decide (j < i)) (fun a b => decide (b < a))) gGt := os_cmp
theorem os_ge : OpS K mg (rCmp (fun i j => decide (j ≤ i)) (fun a b => !decide (a < b))) gGe := os_cmp
/-- is None -/
def gIsN : D → D → Mem → Res D
  | d, .non, m => .ok (.bl (decide (d = .non))) m
  | _, _, _ => .bad
def gNotN : D → D → Mem → Res D
  | d, .non, m => .ok (.bl (!decide (d = .non))) m
  | _, _, _ => .bad
theorem isN_iff {L H} {d : D} {v : V} (h : Is K L H d v) : decide (v = .non) = decide (d = .non) := by
  cases d with
  | non => rw [show v = .non from h]; simp
  | bl b => rw [show v = .bl b from h]; simp
  | int b => rw [show v = .int b from h]; simp
  | str b => rw [show v = .str b from h]; simp
  | tup ds => obtain ⟨a, vs, e, _⟩ := is_tup h; rw [e]; simp
  | rol ds => obtain ⟨a, vs, e, _⟩ := is_rol h; rw [e]; simp
  | ref n => obtain ⟨a, _, e⟩ := is_ref h; rw [e]; simp
  | clo n => obtain ⟨a, _, _, _, e, _⟩ := (show IsClo L H n v from h); rw [e]; simp
  | raw a => rw [show v = .ref a from h]; simp
theorem os_isN : OpS K mg (fun x y H Q => y = .non ∧ Q (.bl (decide (x = .non))) H) gIsN := by
  intro H L m dx dy x y W Q r ix iy h
  cases dy with
  | non => exact ⟨iy, by rw [isN_iff ix]; exact Fin.ok (rel := relV K) h r rfl⟩
  | _ => exact (show False from h).elim
theorem os_notN : OpS K mg (fun x y H Q => y = .non ∧ Q (.bl (!decide (x = .non))) H) gNotN := by
  intro H L m dx dy x y W Q r ix iy h
  cases dy with
  | non => exact ⟨iy, by rw [isN_iff ix]; exact Fin.ok (rel := relV K) h r rfl⟩
  | _ => exact (show False from h).elim
/-! ### equality of data -/
mutual
def pyD : D → Option PyData
  | .non => some .none
  | .bl b => some (.bool b)
  | .int i => some (.int i)
  | .str s => some (.str s)
  | .tup ds => match pyL ds with
    | some a => some (.tuple a)
    | none => none
  | .rol ds => match pyL ds with
    | some a => some (.list a)
    | none => none
  | .ref _ => none
  | .clo _ => none
  | .raw _ => none
def pyL : List D → Option (List PyData)
  | [] => some []
  | d :: ds => match pyD d, pyL ds with
    | some a, some b => some (a :: b)
    | _, _ => none
end
def pyM (m : Mem) : D → Option PyData
  | .ref n => match m[n]? with
    | some (.lst ds) => match pyL ds with
      | some a => some (.list a)
      | none => none
    | _ => none
  | d => pyD d
mutual
theorem dp_of {L : List Addr} {H : Hp} : ∀ (d : D) (v : V) (p : PyData), Is K L H d v → pyD d = some p → Dp K H v p
  | .non, v, p, i, e => by
    simp only [pyD] at e
    cases e
    rw [show v = .non from i]
    exact .non
  | .bl b, v, p, i, e => by
    simp only [pyD] at e
    cases e
    rw [show v = .bl b from i]
    exact .bl b
  | .int b, v, p, i, e => by
    simp only [pyD] at e
    cases e
    rw [show v = .int b from i]
    exact .int b
  | .str b, v, p, i, e => by
    simp only [pyD] at e
    cases e
    rw [show v = .str b from i]
    exact .str b
  | .tup ds, v, p, i, e => by
    obtain ⟨a, vs, e1, f1, g1⟩ := is_tup i
    simp only [pyD] at e
    cases q : pyL ds with
    | none => simp only [q] at e; cases e
    | some ps =>
      simp only [q] at e
      cases e
      rw [e1]
      exact .tup f1.sq (dpl_of ds vs ps g1 q)
  | .rol ds, v, p, i, e => by
    obtain ⟨a, vs, e1, f1, g1⟩ := is_rol i
    simp only [pyD] at e
    cases q : pyL ds with
    | none => simp only [q] at e; cases e
    | some ps =>
      simp only [q] at e
      cases e
      rw [e1]
      exact .lst f1.sq (dpl_of ds vs ps g1 q)
  | .ref n, v, p, i, e => by
    simp only [pyD] at e
    cases e
  | .clo n, v, p, i, e => by
    simp only [pyD] at e
    cases e
  | .raw n, v, p, i, e => by
    simp only [pyD] at e
    cases e
theorem dpl_of {L : List Addr} {H : Hp} : ∀ (ds : List D) (vs : List V) (ps : List PyData), IsL K L H ds vs → pyL ds = some ps → DpAll K H vs ps
  | [], vs, ps, i, e => by
    simp only [pyL] at e
    cases e
    rw [show vs = [] from i]
    exact .nil
  | d :: ds, vs, ps, i, e => by
    obtain ⟨v, r, e1, a, f⟩ := (show ∃ v r, vs = v :: r ∧ Is K L H d v ∧ IsL K L H ds r by simpa only [IsL] using i)
    simp only [pyL] at e
    cases q : pyD d with
    | none => simp only [q] at e; cases e
    | some p =>
      cases q2 : pyL ds with
      | none => simp only [q, q2] at e; cases e
      | some qs =>
        simp only [q, q2] at e
        cases e
        rw [e1]
        exact .cons (dp_of d v p a q) (dpl_of ds r qs f q2)
end
theorem dpm_of {L : List Addr} {H : Hp} {m : Mem} (r : Rep K H L m) {d : D} {v : V} {p : PyData} (i : Is K L H d v) (e : pyM m d = some p) : Dp K H v p := by
  cases d with
  | ref n =>
    obtain ⟨a, e1, e2⟩ := is_ref i
    simp only [pyM] at e
    split at e
    · rename_i ds z
      split at e
      · rename_i ps z2
        cases e
        obtain ⟨vs, h1, h2⟩ := r.lst' z e1
        rw [e2]
        exact .lst (SqL.of h1) (dpl_of ds vs ps h2 z2)
      · cases e
    · cases e
  | _ => exact dp_of _ v p i e
def gEq : D → D → Mem → Res D := fun x y m => match pyM m x, pyM m y with
  | some a, some b => if (SeqAt.shaped a && SeqAt.shaped b) = true then .ok (.bl (PyData.eqv a b)) m else .bad
  | _, _ => .bad
def gNe : D → D → Mem → Res D := fun x y m => match pyM m x, pyM m y with
  | some a, some b => if (SeqAt.shaped a && SeqAt.shaped b) = true then .ok (.bl (!PyData.eqv a b)) m else .bad
  | _, _ => .bad
theorem os_eq : OpS K mg (rEqD K) gEq := by
  intro H L m dx dy x y W Q r ix iy h
  unfold gEq at h
  split at h
  · rename_i a b e1 e2
    by_cases hz : (SeqAt.shaped a && SeqAt.shaped b) = true
    · rw [if_pos hz] at h
      rw [Bool.and_eq_true] at hz
      exact ⟨a, b, dpm_of r ix e1, dpm_of r iy e2, hz.1, hz.2, Fin.ok (rel := relV K) h r rfl⟩
    · rw [if_neg hz] at h
      exact h.elim
  · exact h.elim
theorem os_ne : OpS K mg (rNeD K) gNe := by
  intro H L m dx dy x y W Q r ix iy h
  unfold gNe at h
  split at h
  · rename_i a b e1 e2
    by_cases hz : (SeqAt.shaped a && SeqAt.shaped b) = true
    · rw [if_pos hz] at h
      rw [Bool.and_eq_true] at hz
      exact ⟨a, b, dpm_of r ix e1, dpm_of r iy e2, hz.1, hz.2, Fin.ok (rel := relV K) h r rfl⟩
    · rw [if_neg hz] at h
      exact h.elim
  · exact h.elim
/-! ### items and slices -/
def gIx : D → D → Mem → Res D
  | .tup ds, .int i, m => match atI ds i with
    | some d => .ok d m
    | none => .bad
  | .rol ds, .int i, m => match atI ds i with
    | some d => .ok d m
    | none => .bad
  | .ref n, .int i, m => match m[n]? with
    | some (.lst ds) => match atI ds i with
      | some d => .ok d m
      | none => .bad
    | _ => .bad
  | .str s, .int i, m => if s.length ≤ 16777216 then (match atI s.cps.toList i with
    | some c => .ok (.str ⟨#[c]⟩) m
    | none => .bad) else .bad
  | _, _, _ => .bad
theorem isl_at {L H} {ds : List D} {vs : List V} {i : Int} {d : D} (h : IsL K L H ds vs) (e : atI ds i = some d) : ∃ v, atI vs i = some v ∧ Is K L H d v := by
  unfold atI at e ⊢
  rw [h.length]
  cases q : ixN ds.length i with
  | none => rw [q] at e; cases e
  | some j =>
    rw [q] at e
    exact h.get e
theorem os_ix : OpS K mg (rIx K) gIx := by
  intro H L m dx dy x y W Q r ix iy h
  cases dx with
  | tup ds =>
    cases dy with
    | int i =>
      obtain ⟨p, vs, e1, f1, g1⟩ := is_tup ix
      simp only [gIx] at h
      split at h
      · rename_i d e
        obtain ⟨v, h1, h2⟩ := isl_at g1 e
        exact .inr (.inl ⟨p, vs, i, v, e1, iy, f1.sq, h1, Fin.ok (rel := relV K) h r h2⟩)
      · exact h.elim
    | _ => exact (show False from h).elim
  | rol ds =>
    cases dy with
    | int i =>
      obtain ⟨p, vs, e1, f1, g1⟩ := is_rol ix
      simp only [gIx] at h
      split at h
      · rename_i d e
        obtain ⟨v, h1, h2⟩ := isl_at g1 e
        exact .inl ⟨p, vs, i, v, e1, iy, f1.sq, h1, Fin.ok (rel := relV K) h r h2⟩
      · exact h.elim
    | _ => exact (show False from h).elim
  | ref n =>
    cases dy with
    | int i =>
      obtain ⟨p, e1, e2⟩ := is_ref ix
      simp only [gIx] at h
      split at h
      · rename_i ds z
        obtain ⟨vs, f1, g1⟩ := r.lst' z e1
        split at h
        · rename_i d e
          obtain ⟨v, h1, h2⟩ := isl_at g1 e
          exact .inl ⟨p, vs, i, v, e2, iy, SqL.of f1, h1, Fin.ok (rel := relV K) h r h2⟩
        · exact h.elim
      · exact h.elim
    | _ => exact (show False from h).elim
  | str s =>
    cases dy with
    | int i =>
      simp only [gIx] at h
      by_cases hz : s.length ≤ 16777216
      · rw [if_pos hz] at h
        split at h
        · rename_i c e
          exact .inr (.inr ⟨s, i, c, ix, iy, by rw [sizeLine_eq]; exact hz, e, Fin.ok (rel := relV K) h r rfl⟩)
        · exact h.elim
      · rw [if_neg hz] at h
        exact h.elim
    | _ => exact (show False from h).elim
  | _ => cases dy <;> exact (show False from h).elim
def cutD (ds : List D) (lo hi : Option Int) : List D := (ds.drop (HT.sIx ds.length 0 lo)).take (HT.sIx ds.length ds.length hi - HT.sIx ds.length 0 lo)
theorem IsL.drop {L H} : ∀ (n : Nat) {ds : List D} {vs : List V}, IsL K L H ds vs → IsL K L H (ds.drop n) (vs.drop n)
  | 0, _, _, h => h
  | n + 1, [], vs, h => by rw [show vs = [] from h]; rfl
  | n + 1, d :: ds, vs, h => by
    obtain ⟨v, r, e, _, f⟩ := (show ∃ v r, vs = v :: r ∧ Is K L H d v ∧ IsL K L H ds r by simpa only [IsL] using h)
    rw [e]
    exact IsL.drop n f
theorem IsL.take {L H} : ∀ (n : Nat) {ds : List D} {vs : List V}, IsL K L H ds vs → IsL K L H (ds.take n) (vs.take n)
  | 0, _, _, h => rfl
  | n + 1, [], vs, h => by rw [show vs = [] from h]; rfl
  | n + 1, d :: ds, vs, h => by
    obtain ⟨v, r, e, a, f⟩ := (show ∃ v r, vs = v :: r ∧ Is K L H d v ∧ IsL K L H ds r by simpa only [IsL] using h)
    rw [e, List.take_succ_cons, List.take_succ_cons]
    simp only [IsL]
    exact ⟨v, _, rfl, a, IsL.take n f⟩
theorem IsL.cut {L H} {ds : List D} {vs : List V} (h : IsL K L H ds vs) (lo hi : Option Int) : IsL K L H (cutD ds lo hi) (cutV vs lo hi) := by
  unfold cutD cutV
  rw [h.length]
  exact (h.drop _).take _
def gSl (x : D) (lo hi : Option Int) (m : Mem) : Res D := match x with
  | .tup ds => .ok (.tup (cutD ds lo hi)) m
  | .rol ds => newL (cutD ds lo hi) m
  | .ref n => match m[n]? with
    | some (.lst ds) => newL (cutD ds lo hi) m
    | _ => .bad
  | .str s => if s.length ≤ 16777216 then .ok (.str (cutS s lo hi)) m else .bad
  | _ => .bad
def SlS (K : PySem.W.Frag) (mg : Str → Option Value) (r : V → Option Int → Option Int → Hp → VK → Prop) (g : D → Option Int → Option Int → Mem → Res D) : Prop :=
  ∀ (H : Hp) (L : List Addr) (m : Mem) (d : D) (x : V) (lo hi : Option Int) (W : XK) (Q : VK), Rep K H L m → Is K L H d x → Fin K mg (relV K) W H L (g d lo hi m) Q → r x lo hi H Q
abbrev rSl (K : PySem.W.Frag) : V → Option Int → Option Int → Hp → VK → Prop := fun x lo hi H Q => rSlL K x lo hi H Q ∨ rSlA K x lo hi H Q ∨ rSlS x lo hi H Q
theorem sl_all {X : Cx} : SlR X (rSl X.K) := sl_list.or (sl_tupA.or sl_str)
theorem ss_all : SlS K mg (rSl K) gSl := by
  intro H L m d x lo hi W Q r i h
  cases d with
  | tup ds =>
    obtain ⟨p, vs, e1, f1, g1⟩ := is_tup i
    simp only [gSl] at h
    refine .inr (.inl ⟨p, vs, e1, f1.sq, fun z => ?_, fun _ u hu => tup_new r (g1.cut lo hi) h hu⟩)
    have e : cutD ds lo hi = ds := by
      unfold cutD
      rw [← g1.length, z.1, z.2, List.drop_zero, Nat.sub_zero, g1.length, List.take_length]
    rw [e] at h
    rw [← e1]
    exact Fin.ok (rel := relV K) h r i
  | rol ds =>
    obtain ⟨p, vs, e1, f1, g1⟩ := is_rol i
    exact .inl ⟨p, vs, e1, f1.sq, fun u hu => lst_new r (g1.cut lo hi) h hu⟩
  | ref n =>
    obtain ⟨p, e1, e2⟩ := is_ref i
    simp only [gSl] at h
    split at h
    · rename_i ds z
      obtain ⟨vs, f1, g1⟩ := r.lst' z e1
      exact .inl ⟨p, vs, e2, SqL.of f1, fun u hu => lst_new r (g1.cut lo hi) h hu⟩
    · exact h.elim
  | str s =>
    simp only [gSl] at h
    by_cases hz : s.length ≤ 16777216
    · rw [if_pos hz] at h
      exact .inr (.inr ⟨s, i, by rw [sizeLine_eq]; exact hz, Fin.ok (rel := relV K) h r rfl⟩)
    · rw [if_neg hz] at h
      exact h.elim
  | _ => exact (show False from h).elim
end
/-! ### slices as expressions -/
def oNone : Env → Mem → Res (Option Int) := fun _ m => .ok none m
def oSome (f : Env → Mem → Res D) : Env → Mem → Res (Option Int) := fun ρ m => (f ρ m).bind fun d m => match d with
  | .int i => .ok (some i) m
  | _ => .bad
section
variable {X : Cx} {W : WX} {e : Expr} {lo hi : Option Expr} {f : Env → Mem → Res D} {fl fh : Env → Mem → Res (Option Int)} {pos p2 : Pos}
theorem m_onone : PO X none (tO X.K X.mg W oNone) := ⟨fun pins s σ H Q I h => po_none.run pins s σ H Q I (by
  obtain ⟨L, ρ, m, a, h⟩ := h
  exact Fin.ok (K := X.K) (mg := X.mg) (rel := relO) h a.rep rfl)⟩
theorem m_osome (he : PE X e (tE X.K X.mg W f)) : PO X (some e) (tO X.K X.mg W (oSome f)) := ⟨fun pins s σ H Q I h => (po_some he).run pins s σ H Q I (by
  obtain ⟨L, ρ, m, a, h⟩ := h
  refine ⟨L, ρ, m, a, (Fin.bind h).imp ?_⟩
  rintro x H1 ⟨d, m1, L1, k1, r1, i1, h1⟩
  cases d with
  | int i => exact ⟨i, i1, Fin.ok (K := X.K) (mg := X.mg) (rel := relO) h1 r1 rfl⟩
  | _ => exact (show False from h1).elim)⟩
def fSl (f : Env → Mem → Res D) (fl fh : Env → Mem → Res (Option Int)) : Env → Mem → Res D := fun ρ m => (f ρ m).bind fun x m => (fl ρ m).bind fun lo m => (fh ρ m).bind fun hi m => gSl x lo hi m
theorem m_slice (he : PE X e (tE X.K X.mg W f)) (hl : PO X lo (tO X.K X.mg W fl)) (hh : PO X hi (tO X.K X.mg W fh)) : PE X (.Subscript e (.Slice lo hi none p2) pos) (tE X.K X.mg W (fSl f fl fh)) := by
  refine PE.of (pe_slice sl_all he hl hh) fun σ H Q h => ?_
  obtain ⟨L, ρ, m, a, h⟩ := h
  refine ⟨L, ρ, m, a, (Fin.bind h).imp ?_⟩
  rintro x H1 ⟨d, m1, L1, k1, r1, i1, h1⟩
  refine ⟨L1, ρ, m1, a.mono k1 r1, (Fin.bind (rel := relO) h1).imp ?_⟩
  rintro o H2 ⟨o', m2, L2, k2, r2, i2, h2⟩
  have eo : o = o' := i2
  subst eo
  refine ⟨L2, ρ, m2, (a.mono k1 r1).mono k2 r2, (Fin.bind (rel := relO) h2).imp ?_⟩
  rintro o3 H3 ⟨o3', m3, L3, k3, r3, i3, h3⟩
  have eo : o3 = o3' := i3
  subst eo
  exact ss_all H3 L3 m3 d x o o3 _ _ r3 (k3.is _ (k2.is _ i1)) h3
end
end Mn
end
section
set_option Elab.async false
set_option Elab.async false
set_option linter.all false
set_option maxRecDepth 100000
set_option maxHeartbeats 2000000
namespace Mn
open PySem L2
variable [Clo]

/-! ### calls of built-ins -/
def CallS (K : PySem.W.Frag) (mg : Str → Option Value) (r : List V → Hp → VK → Prop) (g : List D → Mem → Res D) : Prop :=
  ∀ (H : Hp) (L : List Addr) (m : Mem) (ds : List D) (vs : List V) (W : XK) (Q : VK), Rep K H L m → IsL K L H ds vs → Fin K mg (relV K) W H L (g ds m) Q → r vs H Q
def fCall (g : List D → Mem → Res D) (fs : Env → Mem → Res (List D)) : Env → Mem → Res D := fun ρ m => (fs ρ m).bind g
section
variable {X : Cx} {W : WX} {x : Str} {p pos : Pos} {e o i : Expr} {es : List Expr} {fs : Env → Mem → Res (List D)} {fo fe fi : Env → Mem → Res D} {id T : String} {r : List V → Hp → VK → Prop} {g : List D → Mem → Res D}
theorem call_ok {K : PySem.W.Frag} {mg : Str → Option Value} (hs : CallS K mg r g) {σ : St} {H : Hp} {Q : VK} (h : tE K mg W (fCall g fs) σ H Q) : tCB r (tA K mg W fs) σ H Q := by
  obtain ⟨L, ρ, m, a, h⟩ := h
  refine ⟨L, ρ, m, a, (Fin.bind (rel := relA K) h).imp ?_⟩
  rintro vs H1 ⟨ds, m1, L1, k1, r1, i1, h1⟩
  exact hs H1 L1 m1 ds vs _ _ r1 i1 h1
theorem m_callB (hc : CallR X (.builtin id) r) (hs : CallS X.K X.mg r g) (hm : X.mg x = none) (hv : bootBuiltins x = some (.builtin id)) (ha : PA X (e :: es) (tA X.K X.mg W fs)) (hg : Gl X x := by rfl) (hn : x ≠ "__name__" := by decide) (hdb : (x == ("__debug__" : Str)) = false := by decide)
    (he : starEach (e :: es) X.env = (false, eval e X.env) :: starEach es X.env := by rfl) (hpl : (backTo pos (starEach es X.env)).any (·.1) = false := by rfl) : PE X (.Call (.Name x p) (e :: es) [] pos) (tE X.K X.mg W (fCall g fs)) :=
  PE.of (pe_callB hc hg hm hv ha hn hdb he hpl) fun _ _ _ h => call_ok hs h
theorem m_callTy (hc : CallR X (.type T) r) (hs : CallS X.K X.mg r g) (hm : X.mg x = none) (hv : bootBuiltins x = some (.type T)) (ha : PA X (e :: es) (tA X.K X.mg W fs)) (hg : Gl X x := by rfl) (hn : x ≠ "__name__" := by decide) (hdb : (x == ("__debug__" : Str)) = false := by decide)
    (he : starEach (e :: es) X.env = (false, eval e X.env) :: starEach es X.env := by rfl) (hpl : (backTo pos (starEach es X.env)).any (·.1) = false := by rfl) : PE X (.Call (.Name x p) (e :: es) [] pos) (tE X.K X.mg W (fCall g fs)) :=
  PE.of (pe_callTy hc hg hm hv ha hn hdb he hpl) fun _ _ _ h => call_ok hs h
end
section
variable {K : PySem.W.Frag} {mg : Str → Option Value}
theorem isl1 {L H} {d : D} {vs : List V} (h : IsL K L H [d] vs) : ∃ v, vs = [v] ∧ Is K L H d v := by
  obtain ⟨v, r, e, a, f⟩ := (show ∃ v r, vs = v :: r ∧ Is K L H d v ∧ IsL K L H [] r by simpa only [IsL] using h)
  rw [show r = [] from f] at e
  exact ⟨v, e, a⟩
def gLen : List D → Mem → Res D
  | [.str s], m => if s.length ≤ 16777216 then .ok (.int s.length) m else .bad
  | [.tup ds], m => .ok (.int ds.length) m
  | [.rol ds], m => .ok (.int ds.length) m
  | [.ref n], m => match m[n]? with
    | some (.lst ds) => .ok (.int ds.length) m
    | _ => .bad
  | _, _ => .bad
abbrev rLen (K : PySem.W.Frag) : List V → Hp → VK → Prop := fun xs H Q => ∃ x n, xs = [x] ∧ LenV K x H n ∧ Q (.int n) H
theorem cs_len : CallS K mg (rLen K) gLen := by
  intro H L m ds vs W Q r i h
  match ds, i, h with
  | [], _, h => exact (show False from h).elim
  | _ :: _ :: _, _, h => simp only [gLen] at h; exact h.elim
  | [d], i, h =>
    obtain ⟨v, e, a⟩ := isl1 i
    cases d with
    | str s =>
      simp only [gLen] at h
      by_cases hz : s.length ≤ 16777216
      · rw [if_pos hz] at h
        exact ⟨v, s.length, e, by rw [show v = .str s from a]; exact ⟨by rw [sizeLine_eq]; exact hz, rfl⟩, Fin.ok (rel := relV K) h r rfl⟩
      · rw [if_neg hz] at h
        exact h.elim
    | tup ds =>
      obtain ⟨p, ws, e1, f1, g1⟩ := is_tup a
      exact ⟨v, ws.length, e, by rw [e1]; exact .inr ⟨ws, f1.sq, rfl⟩, Fin.ok (rel := relV K) h r (by rw [g1.length]; rfl)⟩
    | rol ds =>
      obtain ⟨p, ws, e1, f1, g1⟩ := is_rol a
      exact ⟨v, ws.length, e, by rw [e1]; exact .inl ⟨ws, f1.sq, rfl⟩, Fin.ok (rel := relV K) h r (by rw [g1.length]; rfl)⟩
    | ref n =>
      obtain ⟨p, e1, e2⟩ := is_ref a
      simp only [gLen] at h
      split at h
      · rename_i ds z
        obtain ⟨ws, f1, g1⟩ := r.lst' z e1
        exact ⟨v, ws.length, e, by rw [e2]; exact .inl ⟨ws, SqL.of f1, rfl⟩, Fin.ok (rel := relV K) h r (by rw [g1.length]; rfl)⟩
      · exact h.elim
    | _ => exact (show False from h).elim
def gInt : List D → Mem → Res D
  | [.int i], m => .ok (.int i) m
  | [.bl b], m => .ok (.int (if b then 1 else 0)) m
  | _, _ => .bad
abbrev rInt : List V → Hp → VK → Prop := fun xs H Q => (∃ i, xs = [.int i] ∧ Q (.int i) H) ∨ ∃ k, xs = [.bl k] ∧ Q (.int (if k then 1 else 0)) H
theorem cs_int : CallS K mg rInt gInt := by
  intro H L m ds vs W Q r i h
  match ds, i, h with
  | [], _, h => exact (show False from h).elim
  | _ :: _ :: _, _, h => simp only [gInt] at h; exact h.elim
  | [d], i, h =>
    obtain ⟨v, e, a⟩ := isl1 i
    cases d with
    | int n => exact .inl ⟨n, by rw [e, show v = .int n from a], Fin.ok (rel := relV K) h r rfl⟩
    | bl n => exact .inr ⟨n, by rw [e, show v = .bl n from a], Fin.ok (rel := relV K) h r rfl⟩
    | _ => exact (show False from h).elim
def gTupOf : List D → Mem → Res D
  | [.tup ds], m => .ok (.tup ds) m
  | [.rol ds], m => .ok (.tup ds) m
  | [.ref n], m => match m[n]? with
    | some (.lst ds) => .ok (.tup ds) m
    | _ => .bad
  | _, _ => .bad
abbrev rTupOf (K : PySem.W.Frag) : List V → Hp → VK → Prop := fun xs H Q => ∃ p ys, xs = [.ref p] ∧ ((SqL K H p ys ∧ ∀ l, H l = none → Q (.ref l) (upd H l (.tup ys))) ∨ (SqT K H p ys ∧ Q (.ref p) H))
theorem cs_tupOf : CallS K mg (rTupOf K) gTupOf := by
  intro H L m ds vs W Q r i h
  match ds, i, h with
  | [], _, h => exact (show False from h).elim
  | _ :: _ :: _, _, h => simp only [gTupOf] at h; exact h.elim
  | [d], i, h =>
    obtain ⟨v, e, a⟩ := isl1 i
    cases d with
    | tup ds =>
      obtain ⟨p, ws, e1, f1, g1⟩ := is_tup a
      exact ⟨p, ws, by rw [e, e1], .inr ⟨f1.sq, Fin.ok (rel := relV K) h r (by rw [← e1]; exact a)⟩⟩
    | rol ds =>
      obtain ⟨p, ws, e1, f1, g1⟩ := is_rol a
      exact ⟨p, ws, by rw [e, e1], .inl ⟨f1.sq, fun l hl => tup_new r g1 h hl⟩⟩
    | ref n =>
      obtain ⟨p, e1, e2⟩ := is_ref a
      simp only [gTupOf] at h
      split at h
      · rename_i ds z
        obtain ⟨ws, f1, g1⟩ := r.lst' z e1
        exact ⟨p, ws, by rw [e, e2], .inl ⟨SqL.of f1, fun l hl => tup_new r g1 h hl⟩⟩
      · exact h.elim
    | _ => exact (show False from h).elim
def gLstOf : List D → Mem → Res D
  | [.tup ds], m => newL ds m
  | [.rol ds], m => newL ds m
  | [.ref n], m => match m[n]? with
    | some (.lst ds) => newL ds m
    | _ => .bad
  | _, _ => .bad
abbrev rLstOf (K : PySem.W.Frag) : List V → Hp → VK → Prop := fun xs H Q => ∃ p ys, xs = [.ref p] ∧ (SqL K H p ys ∨ SqT K H p ys) ∧ ∀ l, H l = none → Q (.ref l) (upd H l (.lst ys))
theorem cs_lstOf : CallS K mg (rLstOf K) gLstOf := by
  intro H L m ds vs W Q r i h
  match ds, i, h with
  | [], _, h => exact (show False from h).elim
  | _ :: _ :: _, _, h => simp only [gLstOf] at h; exact h.elim
  | [d], i, h =>
    obtain ⟨v, e, a⟩ := isl1 i
    cases d with
    | tup ds =>
      obtain ⟨p, ws, e1, f1, g1⟩ := is_tup a
      exact ⟨p, ws, by rw [e, e1], .inr f1.sq, fun l hl => lst_new r g1 h hl⟩
    | rol ds =>
      obtain ⟨p, ws, e1, f1, g1⟩ := is_rol a
      exact ⟨p, ws, by rw [e, e1], .inl f1.sq, fun l hl => lst_new r g1 h hl⟩
    | ref n =>
      obtain ⟨p, e1, e2⟩ := is_ref a
      simp only [gLstOf] at h
      split at h
      · rename_i ds z
        obtain ⟨ws, f1, g1⟩ := r.lst' z e1
        exact ⟨p, ws, by rw [e, e2], .inl (SqL.of f1), fun l hl => lst_new r g1 h hl⟩
      · exact h.elim
    | _ => exact (show False from h).elim
/-- a list of truth values -/
def blsD : List D → Option (List Bool)
  | [] => some []
  | .bl b :: ds => match blsD ds with
    | some r => some (b :: r)
    | none => none
  | _ :: _ => none
theorem bls_of {L H} : ∀ {ds : List D} {vs : List V} {bs : List Bool}, IsL K L H ds vs → blsD ds = some bs → vs = bs.map V.bl
  | [], vs, bs, h, e => by
    cases e
    exact h
  | d :: ds, vs, bs, h, e => by
    obtain ⟨v, r, q, a, f⟩ := (show ∃ v r, vs = v :: r ∧ Is K L H d v ∧ IsL K L H ds r by simpa only [IsL] using h)
    cases d with
    | bl b =>
      simp only [blsD] at e
      split at e
      · rename_i r' z
        cases e
        rw [q, bls_of f z, show v = .bl b from a]
        rfl
      · cases e
    | _ => cases e
def gBls (k : List Bool → Bool) : List D → Mem → Res D
  | [.ref n], m => match m[n]? with
    | some (.lst ds) => match blsD ds with
      | some bs => .ok (.bl (k bs)) m
      | none => .bad
    | _ => .bad
  | _, _ => .bad
def gAll := gBls fun bs => bs.all id
def gAny := gBls fun bs => bs.any id
theorem cs_bls {k : List Bool → Bool} : CallS K mg (fun vs H Q => ∃ (a : Addr) (bs : List Bool), vs = [V.ref a] ∧ SqL K H a (bs.map V.bl) ∧ Q (.bl (k bs)) H) (gBls k) := by
  intro H L m ds vs W Q r i h
  match ds, i, h with
  | [], _, h => exact (show False from h).elim
  | _ :: _ :: _, _, h => simp only [gBls] at h; exact h.elim
  | [d], i, h =>
    obtain ⟨v, e, a⟩ := isl1 i
    cases d with
    | ref n =>
      obtain ⟨p, e1, e2⟩ := is_ref a
      simp only [gBls] at h
      split at h
      · rename_i ds z
        split at h
        · rename_i bs z2
          obtain ⟨ws, f1, g1⟩ := r.lst' z e1
          rw [bls_of g1 z2] at f1
          exact ⟨p, bs, by rw [e, e2], SqL.of f1, Fin.ok (rel := relV K) h r rfl⟩
        · exact h.elim
      · exact h.elim
    | _ => exact (show False from h).elim
theorem cs_all : CallS K mg (rAll K) gAll := cs_bls
theorem cs_any : CallS K mg (rAny K) gAny := cs_bls
end

/-! ### isinstance -/
def tyD (d : D) (m : Mem) : Option String := match d with
  | .non => some "NoneType"
  | .bl _ => some "bool"
  | .int _ => some "int"
  | .str _ => some "str"
  | .tup _ => some "tuple"
  | .rol _ => some "list"
  | .ref n => match m[n]? with
    | some (.lst _) => some "list"
    | some (.dic _ _) => some "dict"
    | _ => none
  | .clo _ => none
  | .raw _ => none
theorem tyx_of {K : PySem.W.Frag} {H : Hp} {L : List Addr} {m : Mem} {d : D} {v : V} {a : String} (r : Rep K H L m) (i : Is K L H d v) (e : tyD d m = some a) : TyX K H v (.type a) := by
  cases d with
  | non => cases e; rw [show v = .non from i]; exact .base .non
  | bl b => cases e; rw [show v = .bl b from i]; exact .base (.bl b)
  | int b => cases e; rw [show v = .int b from i]; exact .base (.int b)
  | str b => cases e; rw [show v = .str b from i]; exact .base (.str b)
  | tup ds =>
    cases e
    obtain ⟨p, vs, e1, f1, g1⟩ := is_tup i
    rw [e1]
    rcases f1 with ⟨f | ⟨o, f⟩, _⟩ | ⟨o, its, n, f, c, _⟩
    · exact .base (.tup f)
    · exact .fTuple f
    · exact .kTuple f c
  | rol ds =>
    cases e
    obtain ⟨p, vs, e1, f1, g1⟩ := is_rol i
    rw [e1]
    rcases f1 with ⟨f | ⟨o, f⟩, _⟩ | ⟨o, its, n, f, c, _⟩
    · exact .base (.lst f)
    · exact .base (.frz f)
    · exact .kList f c
  | ref n =>
    obtain ⟨p, e1, e2⟩ := is_ref i
    simp only [tyD] at e
    split at e
    · rename_i ds z
      cases e
      obtain ⟨ws, f1, g1⟩ := r.lst' z e1
      rw [e2]
      exact .base (.lst f1)
    · rename_i ks ds z
      cases e
      obtain ⟨a', kvs, e3, f1, g1⟩ := r.dic z
      rw [e1] at e3
      cases e3
      rw [e2]
      exact .base (.dK f1)
    · cases e
  | clo n => cases e
  | raw n => cases e
/-- isinstance against built-in classes -/
def isiB (a : String) : List String → Option Bool
  | [] => some false
  | T :: r => match kitB a T with
    | some true => some true
    | some false => isiB a r
    | none => none
def gIsi (Ts : List String) (d : D) (m : Mem) : Res D := match tyD d m with
  | some a => match isiB a Ts with
    | some b => .ok (.bl b) m
    | none => .bad
  | none => .bad
theorem kitAny_of {K : PySem.W.Frag} {a : String} : ∀ {Ts : List String} {b : Bool}, isiB a Ts = some b → PySem.W.kitAny K (.type a) (Ts.map Value.type) = some b
  | [], b, h => by
    cases h
    exact kitAny_nil
  | T :: r, b, h => by
    unfold isiB at h
    split at h
    · rename_i e
      cases h
      exact kitAny_cons (kit_ty e) (fun z => by cases z) (fun _ => rfl)
    · rename_i e
      exact kitAny_cons (kit_ty e) (fun _ => kitAny_of h) (fun z => by cases z)
    · cases h
section
variable {X : Cx} {W : WX} {p p2 p3 pos : Pos} {e : Expr} {fe : Env → Mem → Res D}
def fIsi (Ts : List String) (fe : Env → Mem → Res D) : Env → Mem → Res D := fun ρ m => (fe ρ m).bind (gIsi Ts)
theorem m_isi1 (T : String) {x : Str} (hm : X.mg ("isinstance" : Str) = none) (hx : X.mg x = none) (hv : bootBuiltins x = some (.type T)) (he : PE X e (tE X.K X.mg W fe)) (hg : Gl X "isinstance" := by rfl) (hgx : Gl X x := by rfl)
    (hnx : x ≠ "__name__" := by decide) (hdx : (x == ("__debug__" : Str)) = false := by decide)
    (hs : starEach [e, .Name x p2] X.env = (false, eval e X.env) :: starEach [.Name x p2] X.env := by rfl) (hpl : (backTo pos (starEach [.Name x p2] X.env)).any (·.1) = false := by rfl) (hs2 : starEach [.Name x p2] X.env = (false, eval (.Name x p2) X.env) :: starEach [] X.env := by rfl) :
    PE X (.Call (.Name "isinstance" p) [e, .Name x p2] [] pos) (tE X.K X.mg W (fIsi [T] fe)) := by
  refine PE.of (pe_callB call_isi hg hm (by decide +kernel) (pa_cons he (pa_cons (pe_bltn (v := .ty T) hgx hx hv rfl hnx hdx) pa_nil hs2) hs) (by decide) (by decide) hs hpl) fun σ H Q h => ?_
  obtain ⟨L, ρ, m, a, h⟩ := h
  refine ⟨L, ρ, m, a, (Fin.bind h).imp ?_⟩
  rintro x' H1 ⟨d, m1, L1, k1, r1, i1, h1⟩
  unfold gIsi at h1
  split at h1
  · rename_i t z
    split at h1
    · rename_i b z2
      have z3 : kitB t T = some b := by
        unfold isiB isiB at z2
        split at z2
        · rename_i q; cases z2; exact q
        · rename_i q; cases z2; exact q
        · cases z2
      exact ⟨x', .ty T, .type t, .type T, b, rfl, .ty T, tyx_of r1 i1 z, kit_ty z3, Fin.ok (K := X.K) (mg := X.mg) (rel := relV X.K) h1 r1 rfl⟩
    · exact h1.elim
  · exact h1.elim
theorem m_isi2 (T U : String) {x y : Str} {k : Nat} {p4 : Pos} (hm : X.mg ("isinstance" : Str) = none) (hx : X.mg x = none) (hy : X.mg y = none) (hv : bootBuiltins x = some (.type T)) (hw : bootBuiltins y = some (.type U)) (he : PE X e (tE X.K X.mg W fe)) (hg : Gl X "isinstance" := by rfl) (hgx : Gl X x := by rfl) (hgy : Gl X y := by rfl)
    (hnx : x ≠ "__name__" := by decide) (hdx : (x == ("__debug__" : Str)) = false := by decide) (hny : y ≠ "__name__" := by decide) (hdy : (y == ("__debug__" : Str)) = false := by decide)
    (hs : starEach [e, .Tuple [.Name x p2, .Name y p3] k p4] X.env = (false, eval e X.env) :: starEach [.Tuple [.Name x p2, .Name y p3] k p4] X.env := by rfl) (hpl : (backTo pos (starEach [.Tuple [.Name x p2, .Name y p3] k p4] X.env)).any (·.1) = false := by rfl) :
    PE X (.Call (.Name "isinstance" p) [e, .Tuple [.Name x p2, .Name y p3] k p4] [] pos) (tE X.K X.mg W (fIsi [T, U] fe)) := by
  refine PE.of (pe_callB call_isiT hg hm (by decide +kernel) (pa_cons he (pa_cons (pe_tup (pa_cons (pe_bltn (v := .ty T) hgx hx hv rfl hnx hdx) (pa_cons (pe_bltn (v := .ty U) hgy hy hw rfl hny hdy) pa_nil))) pa_nil) hs) (by decide) (by decide) hs hpl) fun σ H Q h => ?_
  obtain ⟨L, ρ, m, a, h⟩ := h
  refine ⟨L, ρ, m, a, (Fin.bind h).imp ?_⟩
  rintro x' H1 ⟨d, m1, L1, k1, r1, i1, h1⟩
  refine ⟨by show 2 ≤ sizeLine; decide, fun q hq => ?_⟩
  unfold gIsi at h1
  split at h1
  · rename_i t z
    split at h1
    · rename_i b z2
      exact ⟨x', q, [.ty T, .ty U], .type t, [.type T, .type U], b, rfl, upd_same, .cons (.ty T) (.cons (.ty U) .nil), tyx_of (r1.new_ hq) ((Kp.new_ hq).is _ i1) z, kitAny_of z2, Fin.ok (K := X.K) (mg := X.mg) (rel := relV X.K) (h1.mono (Kp.new_ hq)) (r1.new_ hq) rfl⟩
    · exact h1.elim
  · exact h1.elim
end
/-! ### methods of texts -/
def MtS (K : PySem.W.Frag) (mg : Str → Option Value) (r : V → List V → Hp → VK → Prop) (g : Str → List D → Mem → Res D) : Prop :=
  ∀ (H : Hp) (L : List Addr) (m : Mem) (s : Str) (ds : List D) (vs : List V) (W : XK) (Q : VK), Rep K H L m → IsL K L H ds vs → Fin K mg (relV K) W H L (g s ds m) Q → r (.str s) vs H Q
def fM1 (g : Str → List D → Mem → Res D) (fo fe : Env → Mem → Res D) : Env → Mem → Res D := fun ρ m => (fo ρ m).bind fun o m => match o with
  | .str s => (fe ρ m).bind fun d m => g s [d] m
  | _ => .bad
section
variable {X : Cx} {W : WX} {o e : Expr} {fo fe : Env → Mem → Res D} {id : String} {name : Str} {apos pos : Pos} {r : V → List V → Hp → VK → Prop} {g : Str → List D → Mem → Res D}
theorem m_m1 (slot : Slot "str" name id) (ty : typeOf (.builtin id) = pure (.type "method_descriptor")) (rule : MtR X id r) (hs : MtS X.K X.mg r g) (ho : PE X o (tE X.K X.mg W fo)) (he : PE X e (tE X.K X.mg W fe))
    (hst : starEach [e] X.env = [(false, eval e X.env)] := by rfl) (hbase : attributeBase o name X.env (eval o X.env) = eval o X.env := by rfl) (hline : (apos.endLine == pos.line) = true := by rfl) :
    PE X (.Call (.Attribute o name apos) [e] [] pos) (tE X.K X.mg W (fM1 g fo fe)) := by
  refine PE.of (pe_m1 slot ty rule ho he hst hbase hline) fun σ H Q h => ?_
  obtain ⟨L, ρ, m, a, h⟩ := h
  refine ⟨L, ρ, m, a, (Fin.bind h).imp ?_⟩
  rintro x H1 ⟨d, m1, L1, k1, r1, i1, h1⟩
  cases d with
  | str s =>
    refine ⟨⟨s, i1⟩, L1, ρ, m1, a.mono k1 r1, (Fin.bind h1).imp ?_⟩
    rintro y H2 ⟨d2, m2, L2, k2, r2, i2, h2⟩
    rw [show x = .str s from i1]
    exact hs H2 L2 m2 s [d2] [y] _ _ r2 (IsL.one i2) h2
  | _ => exact (show False from h1).elim
end
section
variable {K : PySem.W.Frag} {mg : Str → Option Value}
def g1S (C : Str → Str → Bool) (g : Str → Str → D) : Str → List D → Mem → Res D := fun s ds m => match ds with
  | [.str b] => if C s b = true then .ok (g s b) m else .bad
  | _ => .bad
theorem ms1 {P : Str → Str → Prop} {C : Str → Str → Bool} {g : Str → Str → D} {gv : Str → Str → V} (hC : ∀ a b, C a b = true → P a b) (hg : ∀ a b L H, Is K L H (g a b) (gv a b)) : MtS K mg (fun x xs H Q => ∃ a b, x = .str a ∧ xs = [.str b] ∧ P a b ∧ Q (gv a b) H) (g1S C g) := by
  intro H L m s ds vs W Q r i h
  match ds, i, h with
  | [], _, h => exact (show False from h).elim
  | _ :: _ :: _, _, h => simp only [g1S] at h; exact h.elim
  | [d], i, h =>
    obtain ⟨v, e, a⟩ := isl1 i
    cases d with
    | str b =>
      simp only [g1S] at h
      by_cases hz : C s b = true
      · rw [if_pos hz] at h
        exact ⟨s, b, rfl, by rw [e, show v = .str b from a], hC s b hz, Fin.ok (rel := relV K) h r (hg s b L H)⟩
      · rw [if_neg hz] at h
        exact h.elim
    | _ => exact (show False from h).elim
theorem ms1' {g : Str → Str → D} {gv : Str → Str → V} (hg : ∀ a b L H, Is K L H (g a b) (gv a b)) : MtS K mg (fun x xs H Q => ∃ a b, x = .str a ∧ xs = [.str b] ∧ Q (gv a b) H) (g1S (fun _ _ => true) g) := by
  intro H L m s ds vs W Q r i h
  obtain ⟨a, b, e1, e2, _, q⟩ := ms1 (K := K) (mg := mg) (P := fun _ _ => True) (C := fun _ _ => true) (g := g) (gv := gv) (fun _ _ _ => trivial) hg H L m s ds vs W Q r i h
  exact ⟨a, b, e1, e2, q⟩
def gStarts := g1S (fun _ _ => true) fun a b => .bl (Txt.startswith a b)
theorem ms_starts : MtS K mg (fun x xs H Q => ∃ a b, x = .str a ∧ xs = [.str b] ∧ Q (.bl (Txt.startswith a b)) H) gStarts := ms1' fun _ _ _ _ => rfl
def gStripC := g1S (fun a _ => decide (a.length ≤ 16777216)) fun a b => .str (Txt.stripChars a b)
theorem ms_stripC : MtS K mg (fun x xs H Q => ∃ a b, x = .str a ∧ xs = [.str b] ∧ a.length ≤ sizeLine ∧ Q (.str (Txt.stripChars a b)) H) gStripC :=
  ms1 (P := fun a _ => a.length ≤ sizeLine) (fun a b h => by rw [sizeLine_eq]; exact of_decide_eq_true h) fun _ _ _ _ => rfl
def gRfind := g1S (fun _ _ => true) fun a b => .int (Txt.rfind a b)
theorem ms_rfind : MtS K mg (fun x xs H Q => ∃ a b, x = .str a ∧ xs = [.str b] ∧ Q (.int (Txt.rfind a b)) H) gRfind := ms1' fun _ _ _ _ => rfl
def gFind := g1S (fun _ _ => true) fun a b => .int (Txt.find a b)
theorem ms_find : MtS K mg (fun x xs H Q => ∃ a b, x = .str a ∧ xs = [.str b] ∧ Q (.int (Txt.find a b)) H) gFind := ms1' fun _ _ _ _ => rfl
def gCount := g1S (fun _ _ => true) fun a b => .int (Txt.count a b)
theorem ms_count : MtS K mg (fun x xs H Q => ∃ a b, x = .str a ∧ xs = [.str b] ∧ Q (.int (Txt.count a b)) H) gCount := ms1' fun _ _ _ _ => rfl
/-- split: a new list -/
def gSplit : Str → List D → Mem → Res D := fun s ds m => match ds with
  | [.str b] => if (b.length == 0) = false ∧ s.length + 2 ≤ 16777216 then newL ((Txt.split s b).map D.str) m else .bad
  | _ => .bad
theorem isl_strs {L H} : ∀ (ys : List Str), IsL K L H (ys.map D.str) (ys.map V.str)
  | [] => rfl
  | y :: ys => by
    simp only [List.map_cons, IsL]
    exact ⟨.str y, ys.map V.str, rfl, rfl, isl_strs ys⟩
theorem ms_split : MtS K mg (fun x xs H Q => ∃ a b, x = .str a ∧ xs = [.str b] ∧ (b.length == 0) = false ∧ a.length + 2 ≤ sizeLine ∧ rNewStrs (Txt.split a b) H Q) gSplit := by
  intro H L m s ds vs W Q r i h
  match ds, i, h with
  | [], _, h => exact (show False from h).elim
  | _ :: _ :: _, _, h => simp only [gSplit] at h; exact h.elim
  | [d], i, h =>
    obtain ⟨v, e, a⟩ := isl1 i
    cases d with
    | str b =>
      simp only [gSplit] at h
      by_cases hz : (b.length == 0) = false ∧ s.length + 2 ≤ 16777216
      · rw [if_pos hz] at h
        exact ⟨s, b, rfl, by rw [e, show v = .str b from a], hz.1, by rw [sizeLine_eq]; exact hz.2, fun p hp => lst_new r (isl_strs _) h hp⟩
      · rw [if_neg hz] at h
        exact h.elim
    | _ => exact (show False from h).elim
/-- join -/
def strsD : List D → Option (List Str)
  | [] => some []
  | .str b :: ds => match strsD ds with
    | some r => some (b :: r)
    | none => none
  | _ :: _ => none
theorem strs_of {L H} : ∀ {ds : List D} {vs : List V} {bs : List Str}, IsL K L H ds vs → strsD ds = some bs → vs = bs.map V.str
  | [], vs, bs, h, e => by
    cases e
    exact h
  | d :: ds, vs, bs, h, e => by
    obtain ⟨v, r, q, a, f⟩ := (show ∃ v r, vs = v :: r ∧ Is K L H d v ∧ IsL K L H ds r by simpa only [IsL] using h)
    cases d with
    | str b =>
      simp only [strsD] at e
      split at e
      · rename_i r' z
        cases e
        rw [q, strs_of f z, show v = .str b from a]
        rfl
      · cases e
    | _ => cases e
def joinD (s : Str) (ds : List D) (m : Mem) : Res D := match strsD ds with
  | some ys => if (ys.map (·.length)).sum + ys.length * s.length ≤ 16777216 then .ok (.str (Txt.join s ys)) m else .bad
  | none => .bad
def gJoin : Str → List D → Mem → Res D := fun s ds m => match ds with
  | [.tup xs] => joinD s xs m
  | [.rol xs] => joinD s xs m
  | [.ref n] => match m[n]? with
    | some (.lst xs) => joinD s xs m
    | _ => .bad
  | _ => .bad
abbrev rJoin (K : PySem.W.Frag) : V → List V → Hp → VK → Prop := fun x xs H Q => ∃ a p, ∃ ys : List Str, x = .str a ∧ xs = [.ref p] ∧ (SqL K H p (ys.map V.str) ∨ SqT K H p (ys.map V.str)) ∧ (ys.map (·.length)).sum + ys.length * a.length ≤ 16777216 ∧ Q (.str (Txt.join a ys)) H
theorem ms_join : MtS K mg (rJoin K) gJoin := by
  intro H L m s ds vs W Q r i h
  have fin : ∀ {xs : List D} {ws : List V} {p : Addr}, IsL K L H xs ws → (SqL K H p ws ∨ SqT K H p ws) → vs = [.ref p] → Fin K mg (relV K) W H L (joinD s xs m) Q → rJoin K (.str s) vs H Q := by
    intro xs ws p g f e h
    unfold joinD at h
    split at h
    · rename_i ys z
      by_cases hz : (ys.map (·.length)).sum + ys.length * s.length ≤ 16777216
      · rw [if_pos hz] at h
        rw [strs_of g z] at f
        exact ⟨s, p, ys, rfl, e, f, hz, Fin.ok (rel := relV K) h r rfl⟩
      · rw [if_neg hz] at h
        exact h.elim
    · exact h.elim
  match ds, i, h with
  | [], _, h => exact (show False from h).elim
  | _ :: _ :: _, _, h => simp only [gJoin] at h; exact h.elim
  | [d], i, h =>
    obtain ⟨v, e, a⟩ := isl1 i
    cases d with
    | tup xs =>
      obtain ⟨p, ws, e1, f1, g1⟩ := is_tup a
      exact fin g1 (.inr f1.sq) (by rw [e, e1]) h
    | rol xs =>
      obtain ⟨p, ws, e1, f1, g1⟩ := is_rol a
      exact fin g1 (.inl f1.sq) (by rw [e, e1]) h
    | ref n =>
      obtain ⟨p, e1, e2⟩ := is_ref a
      simp only [gJoin] at h
      split at h
      · rename_i xs z
        obtain ⟨ws, f1, g1⟩ := r.lst' z e1
        exact fin g1 (.inl (SqL.of f1)) (by rw [e, e2]) h
      · exact h.elim
    | _ => exact (show False from h).elim
end
/-! ### o[i] = e -/
def sSetIx (fo fi fe : Env → Mem → Res D) : Env → Mem → Out := fun ρ m => resS (fe ρ m) ρ fun d m => resS (fo ρ m) ρ fun o m => resS (fi ρ m) ρ fun i m => match o, i with
  | .ref n, .int k => match m[n]? with
    | some (.lst ds) => match ixN ds.length k with
      | some j => .nx ρ (m.set n (.lst (ds.set j d)))
      | none => .bad
    | _ => .bad
  | _, _ => .bad
theorem IsL.set {K L H} : ∀ {ds : List D} {vs : List V} {d : D} {v : V} (j : Nat), IsL K L H ds vs → Is K L H d v → IsL K L H (ds.set j d) (vs.set j v)
  | [], vs, d, v, j, h, i => by rw [show vs = [] from h]; rfl
  | x :: ds, vs, d, v, j, h, i => by
    obtain ⟨u, r, e, a, f⟩ := (show ∃ v r, vs = v :: r ∧ Is K L H x v ∧ IsL K L H ds r by simpa only [IsL] using h)
    rw [e]
    cases j with
    | zero =>
      simp only [List.set_cons_zero, IsL]
      exact ⟨v, r, rfl, i, f⟩
    | succ j =>
      simp only [List.set_cons_succ, IsL]
      exact ⟨u, _, rfl, a, IsL.set j f i⟩
section
variable {X : Cx} {W : WX} {o i e : Expr} {fo fe fi : Env → Mem → Res D} {pos pos' : Pos}
theorem m_setix (he : PE X e (tE X.K X.mg W fe)) (ho : PE X o (tE X.K X.mg W fo)) (hi : PE X i (tE X.K X.mg W fi))
    (ha : ∀ v, assign (.Subscript o i pos') X.env v = (do
      let ov ← holding [v] (eval o X.env)
      let iv ← holding [v, ov] (eval i X.env)
      standAt pos'
      holding [v, ov, iv] (setItem ov iv v)
      release [v, ov, iv] []) := by intro _; rfl)
    (hs : swapsWithSole [.Subscript o i pos'] e pos.line X.env = pure false := by rfl) (hw : swappedStores [.Subscript o i pos'] e X.env = pure none := by rfl)
    (h1 : (assignEach [.Subscript o i pos'] X.env).map (·.2) = [assign (.Subscript o i pos') X.env] := by rfl) : PS X (.Assign [.Subscript o i pos'] e pos) (tS X.K X.mg W (sSetIx fo fi fe)) := by
  refine PS.of (ps_asg he (pg_sub ho hi set_list ha) hs hw h1) fun D σ H h => ?_
  obtain ⟨L, ρ, m, a, h⟩ := h
  refine ⟨L, ρ, m, a, (FinS.bind (rel := relV X.K) a h).imp ?_⟩
  rintro v H1 ⟨d, m1, L1, k1, r1, i1, h1⟩
  have a1 := a.mono k1 r1
  refine ⟨L1, ρ, m1, a1, (FinS.bind (rel := relV X.K) a1 h1).imp ?_⟩
  rintro ov H2 ⟨od, m2, L2, k2, r2, i2, h2⟩
  have a2 := a1.mono k2 r2
  refine ⟨L2, ρ, m2, a2, (FinS.bind (rel := relV X.K) a2 h2).imp ?_⟩
  rintro iv H3 ⟨id, m3, L3, k3, r3, i3, h3⟩
  have a3 := a2.mono k3 r3
  cases od with
  | ref n =>
    cases id with
    | int k =>
      obtain ⟨p, e1, e2⟩ := is_ref (k3.is _ i2)
      simp only at h3
      split at h3
      · rename_i ds z
        split at h3
        · rename_i j z2
          obtain ⟨vs, f1, g1⟩ := r3.lst' z e1
          refine ⟨p, vs, k, j, e2, i3, f1, by rw [g1.length]; exact z2, ?_⟩
          exact h3 σ _ L3 (Kp.wr r3 e1 f1) (a3.mono (Kp.wr r3 e1 f1) (r3.wr e1 f1 (g1.set j ((k2.trans k3).is _ i1))))
        · exact h3.elim
      · exact h3.elim
    | _ => exact (show False from h3).elim
  | _ => exact (show False from h3).elim
end
/-! ### defs -/
def spM (K : PySem.W.Frag) (mg : Str → Option Value) (n : Nat) (F : List D → Mem → Res D) : Sp := fun vs H Q E => vs.length = n ∧ ∃ L ds m, Rep K H L m ∧ IsL K L H ds vs ∧ Fin K mg (relV K) E H L (F ds m) Q
def startE (N : List Str) (ds : List D) : Env := ds.map some ++ List.replicate (N.length - ds.length) none
def fnD (N : List Str) (G : Env → Mem → Out) (ds : List D) (m : Mem) : Res D := match G (startE N ds) m with
  | .nx _ m => .ok .non m
  | .rt d m => .ok d m
  | .ex e _ m => .ex e m
  | _ => .bad
theorem at_start {K : PySem.W.Frag} {H : Hp} {L : List Addr} {m : Mem} {N : List Str} {ds : List D} {vs : List V} (r : Rep K H L m) (i : IsL K L H ds vs) : At K (L2.start N vs) H L (startE N ds) m := by
  refine ⟨r, ?_, fun j d e => ?_⟩
  · unfold L2.start startE
    rw [List.length_append, List.length_append, List.length_map, List.length_map, List.length_replicate, List.length_replicate, i.length]
  · unfold startE at e
    by_cases hj : j < ds.length
    · rw [List.getElem?_append_left (by rw [List.length_map]; exact hj), List.getElem?_map] at e
      cases q : ds[j]? with
      | none => rw [q] at e; cases e
      | some x =>
        rw [q] at e
        cases e
        obtain ⟨v, h1, h2⟩ := i.get q
        exact ⟨v, by unfold L2.start; rw [List.getElem?_append_left (by rw [List.length_map, i.length]; exact hj), List.getElem?_map, h1]; rfl, h2⟩
    · rw [List.getElem?_append_right (by rw [List.length_map]; omega), List.getElem?_replicate] at e
      split at e <;> cases e
section
variable {P : Program} {w : World} {K : PySem.W.Frag} {mg : Str → Option Value} {base : Heap}
theorem m_fn {x qual : Str} {st : Stmt} {f : Addr} {fd : FuncData} {N ps : List Str} {k : Nat} (F : Fun K x qual st f fd) (S : FnScope N ps (defScope st)) (G : Env → Mem → Out)
    (hb : ∀ (cdv : Value) (A : Around) (outer : List PySem.Env) (s : Shared) (H : Hp) (E : XK), Room k (A.deeper (PyProof.Rows.envOfC qual (defScope st) s.heap.objs.size f cdv)) →
      PSs (cxOf (L2.CX P w) P w K mg base N qual (defScope st) f cdv A outer s H E) (defBody st) (tS K mg (fun c d _ H => E c d H) G)) :
    FnOk P w K mg base (L2.CX P w) (k + 1) f fd ps (spM K mg ps.length (fnD N G)) := by
  refine F.okX S (fun vs H Q E h => h.1) fun cdv A outer s H vs Q E hr h => ?_
  obtain ⟨_, L, ds, m, r, i, h⟩ := h
  refine ⟨_, hb cdv A outer s H E hr, L, startE N ds, m, at_start r i, ?_⟩
  unfold fnD at h
  cases q : G (startE N ds) m with
  | nx ρ' m' =>
    rw [q] at h
    exact fun σ' H' L' k' a' => h .non H' L' k' a'.rep rfl
  | rt d m' =>
    rw [q] at h
    exact h
  | ex e ρ' m' =>
    rw [q] at h
    exact fun c d σ' H' L' k' a' x => h c d H' L' k' a'.rep x
  | bk ρ' m' => rw [q] at h; exact h.elim
  | ct ρ' m' => rw [q] at h; exact h.elim
  | bad => rw [q] at h; exact h.elim
/-- a def as its callers know it -/
structure DefOk (P : Program) (w : World) (K : PySem.W.Frag) (mg : Str → Option Value) (base : Heap) (k : Nat) (x : Str) (n : Nat) (F : List D → Mem → Res D) : Prop where
  ex : ∃ (f : Addr) (fd : FuncData) (ps : List Str), ps.length = n ∧ FnOk P w K mg base (L2.CX P w) k f fd ps (spM K mg n F) ∧ Binds K fd ps [] ∧ PySem.W.keepIn K (.ref f) = true ∧ mg x = some (.ref f)
theorem tk_def {N : List Str} {qual : Str} {sc : Scope} {f : Addr} {cdv : Value} {A : Around} {outer : List PySem.Env} {s : Shared} {H : Hp} {E : XK} :
    Takes (cxOf (L2.CX P w) P w K mg base N qual sc f cdv A outer s H E) (fun c d _ H => E c d H) := takes_of rfl rfl rfl rfl
end
section
variable {X : Cx} {W : WX} {x : Str} {p pos : Pos} {e : Expr} {es : List Expr} {fs : Env → Mem → Res (List D)}
theorem m_call {k n : Nat} {F : List D → Mem → Res D} (hf : DefOk X.prog X.w X.K X.mg X.base k x n F) (hr : Room k X.A) (tk : Takes X W) (ha : PA X (e :: es) (tA X.K X.mg W fs)) (hn : ∀ ρ m ds m', fs ρ m = .ok ds m' → ds.length = n) (hg : Gl X x := by rfl)
    (hdb : (x == ("__debug__" : Str)) = false := by decide) (he : starEach (e :: es) X.env = (false, eval e X.env) :: starEach es X.env := by rfl) (hpl : (backTo pos (starEach es X.env)).any (·.1) = false := by rfl) :
    PE X (.Call (.Name x p) (e :: es) [] pos) (tE X.K X.mg W (fCall F fs)) := by
  obtain ⟨f, fd, ps, hl, G, hb, hk, hm⟩ := hf.ex
  refine PE.of (pe_callS G hr hg hm hk hb (fun σ => passAt tk σ) ha hdb he hpl) fun σ H Q h => ?_
  obtain ⟨L, ρ, m, a, h⟩ := h
  refine ⟨L, ρ, m, a, ?_⟩
  have hn' := hn ρ m
  unfold fCall at h
  revert h
  cases hq : fs ρ m with
  | bad => exact fun h => h.elim
  | ex e m' => exact fun h => h
  | ok ds m' =>
    intro h vs H1 L1 k1 r1 i1
    have i1 : IsL X.K L1 H1 ds vs := i1
    exact ⟨by rw [i1.length]; exact hn' ds m' hq, L1, ds, m', r1, i1, Fin.mono (r := F ds m') h k1⟩
end
theorem alen0 : ∀ ρ m ds m', aNil ρ m = .ok ds m' → ds.length = 0 := by
  intro ρ m ds m' h
  cases h
  rfl
theorem alenS {f : Env → Mem → Res D} {g : Env → Mem → Res (List D)} {n : Nat} (hg : ∀ ρ m ds m', g ρ m = .ok ds m' → ds.length = n) : ∀ ρ m ds m', aCons f g ρ m = .ok ds m' → ds.length = n + 1 := by
  intro ρ m ds m' h
  unfold aCons at h
  cases q : f ρ m with
  | ok d m1 =>
    rw [q] at h
    simp only [Res.bind] at h
    cases q2 : g ρ m1 with
    | ok d2 m2 =>
      rw [q2] at h
      cases h
      rw [List.length_cons, hg _ _ _ _ q2]
    | ex e m1 => rw [q2] at h; cases h
    | bad => rw [q2] at h; cases h
  | ex e m1 => rw [q] at h; cases h
  | bad => rw [q] at h; cases h
end Mn
end
section
set_option Elab.async false
set_option Elab.async false
set_option linter.all false
set_option maxRecDepth 100000
set_option maxHeartbeats 2000000
namespace Mn
open PySem L2 Builtin Builtin.Str
variable [Clo]

def rpart (x y : PySem.Str) : PySem.Str × PySem.Str × PySem.Str := match lastOccurrence x y 0 x.length with
  | some i => (strSub x 0 i, y, strSub x (i + y.length) x.length)
  | none => (PySem.Str.empty, PySem.Str.empty, x)
theorem meets_str_rpartition (x y : PySem.Str) (t u : Tok) (hy : (y.length == 0) = false) (hx : x.length ≤ sizeLine) :
    Meets («str.rpartition» ⟨[.str x t, .str y u], []⟩) (fun _ R s =>
      R (.ok (.ret (.ref s.heap.objs.size)))
        (match lastOccurrence x y 0 x.length with
         | some i => { s with toks := s.toks + 1 + 1, heap := s.heap.push { cls := .type "tuple", data := .seq [.str (strSub x 0 i) s.toks, .str y u, .str (strSub x (i + y.length) x.length) (s.toks + 1)].toArray } }
         | none => { s with toks := s.toks + 1, heap := s.heap.push { cls := .type "tuple", data := .seq [.str PySem.Str.empty s.toks, .str PySem.Str.empty s.toks, .str x t].toArray } })) := by
  obtain ⟨raising, htree⟩ := rpartition_tree x y t u
  refine .of_wp fun prog w A R s h => ?_
  rw [htree, hy]
  show wpAny _ _ (match lastOccurrence x y 0 x.length with
     | some i => (do ret (← newTuple [← mkStr (strSub x 0 i), .str y u, ← mkStr (strSub x (i + y.length) x.length)]))
     | none => (do rule "str.rpartition.not-found"; let empty ← mkStr PySem.Str.empty; ret (← newTuple [empty, empty, .str x t]))) _ _ s
  revert h
  cases lastOccurrence x y 0 x.length with
  | none =>
    intro h
    exact wpAny_bind (wpAny_rule (wpAny_bind (wpAny_mkStr (wpAny_bind (wpAny_newTuple (wpAny_pure ⟨_, rfl, h⟩) (by show 3 ≤ sizeLine; decide))) (by decide))))
  | some i =>
    intro h
    exact wpAny_bind (wpAny_mkStr (wpAny_bind (wpAny_mkStr (wpAny_bind (wpAny_newTuple (wpAny_pure ⟨_, rfl, h⟩) (by show 3 ≤ sizeLine; decide))) (Nat.le_trans (strSub_length_le ..) hx))) (Nat.le_trans (strSub_length_le ..) hx))
abbrev rRpart : V → List V → Hp → VK → Prop := fun x xs H Q => ∃ a b, x = .str a ∧ xs = [.str b] ∧ (b.length == 0) = false ∧ a.length ≤ sizeLine ∧
    ∀ p, H p = none → Q (.ref p) (upd H p (.tup [.str (rpart a b).1, .str (rpart a b).2.1, .str (rpart a b).2.2]))
theorem mt_rpartition {X : Cx} : MtR X "str.rpartition" rRpart := by
  intro pins s σ H x xs v us Q I rx rs h
  obtain ⟨a, b, rfl, rfl, hb, hz, h⟩ := h
  obtain ⟨t, rfl⟩ := rx
  cases rs with
  | cons r1 rs =>
    cases rs
    obtain ⟨u, rfl⟩ := r1
    refine call_meets F.slot_str_rpartition (typeIs_str _ _ _) F.entry_str_rpartition (F.args_str_rpartition_2 _ _) (meets_str_rpartition a b t u hb hz) ?_
    unfold rpart at h
    revert h
    cases lastOccurrence a b 0 a.length with
    | none => intro h; exact laid_parts I h
    | some i => intro h; exact laid_parts I h
def gRpart : PySem.Str → List D → Mem → Res D := fun s ds m => match ds with
  | [.str b] => if (b.length == 0) = false ∧ s.length ≤ 16777216 then .ok (.tup [.str (rpart s b).1, .str (rpart s b).2.1, .str (rpart s b).2.2]) m else .bad
  | _ => .bad
theorem ms_rpart {K : PySem.W.Frag} {mg : PySem.Str → Option Value} : MtS K mg rRpart gRpart := by
  intro H L m s ds vs W Q r i h
  match ds, i, h with
  | [], _, h => exact (show False from h).elim
  | _ :: _ :: _, _, h => simp only [gRpart] at h; exact h.elim
  | [d], i, h =>
    obtain ⟨v, e, a⟩ := isl1 i
    cases d with
    | str b =>
      simp only [gRpart] at h
      by_cases hz : (b.length == 0) = false ∧ s.length ≤ 16777216
      · rw [if_pos hz] at h
        refine ⟨s, b, rfl, by rw [e, show v = .str b from a], hz.1, by rw [sizeLine_eq]; exact hz.2, fun p hp => tup_new r ?_ h hp⟩
        simp only [IsL]
        exact ⟨_, _, rfl, rfl, _, _, rfl, rfl, _, _, rfl, rfl, rfl⟩
      · rw [if_neg hz] at h
        exact h.elim
    | _ => exact (show False from h).elim
/-- a == b < c .. two comparisons in a row -/
def fChain (g g' : D → D → Mem → Res D) (fa fb fc : Env → Mem → Res D) : Env → Mem → Res D := fun ρ m => (fa ρ m).bind fun x m => (fb ρ m).bind fun y m => (g x y m).bind fun z m => match z with
  | .bl true => (fc ρ m).bind fun w m => g' y w m
  | .bl false => .ok (.bl false) m
  | _ => .bad
section
variable {X : Cx} {W : WX} {a b c : Expr} {fa fb fc : Env → Mem → Res D} {pos : Pos}
theorem chain_ok {K : PySem.W.Frag} {mg : PySem.Str → Option Value} {r r' : R2} {g g' : D → D → Mem → Res D} (hs : OpS K mg r g) (hs' : OpS K mg r' g') {σ : St} {H : Hp} {Q : VK} (h : tE K mg W (fChain g g' fa fb fc) σ H Q) :
    tChain r r' (tE K mg W fa) (tE K mg W fb) (tE K mg W fc) σ H Q := by
  obtain ⟨L, ρ, m, a, h⟩ := h
  refine ⟨L, ρ, m, a, (Fin.bind h).imp ?_⟩
  rintro x H1 ⟨dx, m1, L1, k1, r1, i1, h1⟩
  refine ⟨L1, ρ, m1, a.mono k1 r1, (Fin.bind h1).imp ?_⟩
  rintro y H2 ⟨dy, m2, L2, k2, r2, i2, h2⟩
  refine hs H2 L2 m2 dx dy x y _ _ r2 (k2.is _ i1) i2 ((Fin.bind h2).imp ?_)
  rintro z H3 ⟨dz, m3, L3, k3, r3, i3, h3⟩
  cases dz with
  | bl k =>
    refine ⟨k, i3, ?_⟩
    cases k with
    | true =>
      rw [if_pos rfl]
      refine ⟨L3, ρ, m3, ((a.mono k1 r1).mono k2 r2).mono k3 r3, (Fin.bind h3).imp ?_⟩
      rintro w H4 ⟨dw, m4, L4, k4, r4, i4, h4⟩
      exact hs' H4 L4 m4 dy dw y w _ _ r4 ((k3.trans k4).is _ i2) i4 h4
    | false =>
      rw [if_neg Bool.false_ne_true]
      exact Fin.ok (rel := relV K) h3 r3 rfl
  | _ => exact (show False from h3).elim
theorem m_chain {op op' : CmpOp} {r r' : R2} {g g' : D → D → Mem → Res D} (ho : OpR X (compareOp op) r) (ho' : OpR X (compareOp op') r') (hs : OpS X.K X.mg r g) (hs' : OpS X.K X.mg r' g') (ha : PE X a (tE X.K X.mg W fa)) (hb : PE X b (tE X.K X.mg W fb)) (hc : PE X c (tE X.K X.mg W fc))
    (hm : lastMarks [op, op'] [b, c] = false := by with_unfolding_all rfl) : PE X (.Compare a [op, op'] [b, c] pos) (tE X.K X.mg W (fChain g g' fa fb fc)) := PE.of (pe_chain ho ho' ha hb hc hm) fun _ _ _ h => chain_ok hs hs' h
theorem m_chainT {op op' : CmpOp} {r r' : R2} {g g' : D → D → Mem → Res D} (ho : OpR X (compareOp op) r) (ho' : OpR X (compareOp op') r') (hs : OpS X.K X.mg r g) (hs' : OpS X.K X.mg r' g') (ha : PE X a (tE X.K X.mg W fa)) (hb : PE X b (tE X.K X.mg W fb)) (hc : PE X c (tE X.K X.mg W fc))
    (hm : lastMarks [op, op'] [b, c] = false := by with_unfolding_all rfl) : PT X (.Compare a [op, op'] [b, c] pos) (tT X.K X.mg W (fun ρ m => (fChain g g' fa fb fc ρ m).bind blD)) := PT.of (pt_chain ho ho' ha hb hc hm) fun _ _ _ h => testOf (fun _ q => chain_ok hs hs' q) h
end
end Mn
end
section
set_option Elab.async false
set_option Elab.async false
set_option linter.all false
set_option maxRecDepth 100000
set_option maxHeartbeats 2000000
namespace Mn
open PySem L2
variable [Clo]

def fBl (f : Env → Mem → Res D) : Env → Mem → Res Bool := fun ρ m => (f ρ m).bind blD
theorem bt_len : bootBuiltins ("len" : Str) = some (.builtin "len") := by decide +kernel
theorem bt_all : bootBuiltins ("all" : Str) = some (.builtin "all") := by decide +kernel
theorem bt_any : bootBuiltins ("any" : Str) = some (.builtin "any") := by decide +kernel
theorem bt_int : bootBuiltins ("int" : Str) = some (.type "int") := by decide +kernel
theorem bt_str : bootBuiltins ("str" : Str) = some (.type "str") := by decide +kernel
theorem bt_bool : bootBuiltins ("bool" : Str) = some (.type "bool") := by decide +kernel
theorem bt_tuple : bootBuiltins ("tuple" : Str) = some (.type "tuple") := by decide +kernel
theorem bt_list : bootBuiltins ("list" : Str) = some (.type "list") := by decide +kernel
theorem bt_dict : bootBuiltins ("dict" : Str) = some (.type "dict") := by decide +kernel
section
variable {X : Cx} {W : WX} {x : Str} {p p2 pos pos' : Pos} {e : Expr} {fe : Env → Mem → Res D}
theorem m_gstr {s : Str} (h : ∃ t, X.mg x = some (.str s t)) (hg : Gl X x := by rfl) (hd : (x == ("__debug__" : Str)) = false := by decide) : PE X (.Name x pos) (tE X.K X.mg W (fC (.str s))) := by
  obtain ⟨t, h⟩ := h
  exact m_glob hg h (v := .str s) ⟨t, rfl⟩ (fun _ _ => rfl) hd
theorem m_gint {s : Int} (h : ∃ t, X.mg x = some (.int s t)) (hg : Gl X x := by rfl) (hd : (x == ("__debug__" : Str)) = false := by decide) : PE X (.Name x pos) (tE X.K X.mg W (fC (.int s))) := by
  obtain ⟨t, h⟩ := h
  exact m_glob hg h (v := .int s) ⟨t, rfl⟩ (fun _ _ => rfl) hd
def fNeg (f : Env → Mem → Res D) : Env → Mem → Res D := fun ρ m => (f ρ m).bind fun d m => match d with
  | .int i => .ok (.int (-i)) m
  | _ => .bad
theorem m_neg (ha : PE X e (tE X.K X.mg W fe)) : PE X (.UnaryOp .USub e pos) (tE X.K X.mg W (fNeg fe)) := by
  refine PE.of (pe_un un_neg ha) fun σ H Q h => ?_
  obtain ⟨L, ρ, m, a, h⟩ := h
  refine ⟨L, ρ, m, a, (Fin.bind h).imp ?_⟩
  rintro y H1 ⟨d, m1, L1, k1, r1, i1, h1⟩
  cases d with
  | int i => exact ⟨i, i1, Fin.ok (K := X.K) (mg := X.mg) (rel := relV X.K) h1 r1 rfl⟩
  | _ => exact (show False from h1).elim
/-- an own exception class, made with a text -/
structure ErrOk (K : PySem.W.Frag) (mg : Str → Option Value) (x : Str) : Prop where
  ex : ∃ C, mg x = some (.ref C) ∧ PySem.W.excIn K C [.type "ValueError", .type "Exception", .type "BaseException", .type "object"] "ValueError.__new__" = true ∧ PySem.W.keepIn K (.ref C) = true ∧
    PySem.W.subIn K (.ref C) (.type "BaseException") = some true ∧ PySem.W.typeIn K (.ref C) = some (.type "type")
theorem m_raiseX {y : Str} {j : Nat} (tk : Takes X W) (h : ErrOk X.K X.mg x) (hc : X.calm = true := by rfl) (hg : Gl X x := by rfl) (hdb : (x == ("__debug__" : Str)) = false := by decide) :
    PS X (.Raise (some (.Call (.Name x p) [.Constant (.str y) j p2] [] pos')) none pos) (tS X.K X.mg W (sRaise x)) := by
  obtain ⟨C, gC, xC, kC, sC, tC⟩ := h.ex
  exact m_raise hc tk PySem.F.excBase_ValueError xC gC kC (raises_own sC tC) hg hdb
end
section
variable {K : PySem.W.Frag} {mg : Str → Option Value}
def gIsB : D → D → Mem → Res D
  | .bl a, .bl b, m => .ok (.bl (decide (a = b))) m
  | _, _, _ => .bad
def gNotB : D → D → Mem → Res D
  | .bl a, .bl b, m => .ok (.bl (!decide (a = b))) m
  | _, _, _ => .bad
theorem os_isB : OpS K mg (fun x y H Q => ∃ a b : Bool, x = .bl a ∧ y = .bl b ∧ Q (.bl (decide (a = b))) H) gIsB := by
  intro H L m dx dy x y W Q r ix iy h
  cases dx with
  | bl a =>
    cases dy with
    | bl b => exact ⟨a, b, ix, iy, Fin.ok (rel := relV K) h r rfl⟩
    | _ => exact (show False from h).elim
  | _ => cases dy <;> exact (show False from h).elim
theorem os_notB : OpS K mg (fun x y H Q => ∃ a b : Bool, x = .bl a ∧ y = .bl b ∧ Q (.bl (!decide (a = b))) H) gNotB := by
  intro H L m dx dy x y W Q r ix iy h
  cases dx with
  | bl a =>
    cases dy with
    | bl b => exact ⟨a, b, ix, iy, Fin.ok (rel := relV K) h r rfl⟩
    | _ => exact (show False from h).elim
  | _ => cases dy <;> exact (show False from h).elim
variable {P : Program} {w : World} {base : Heap}
theorem po_def {N : List Str} {qual : Str} {sc : Scope} {f : Addr} {cdv : Value} {A : Around} {outer : List PySem.Env} {s : Shared} {H : Hp} {E : XK} :
    PassesOwn (model P w) (cxOf (L2.CX P w) P w K mg base N qual sc f cdv A outer s H E).A (cxOf (L2.CX P w) P w K mg base N qual sc f cdv A outer s H E).env (cxOf (L2.CX P w) P w K mg base N qual sc f cdv A outer s H E).xe := passes_of rfl
end
section
variable {X : Cx} {W : WX} {elt tg iter : Expr} {ifs : List Expr} {scope : Scope} {wi : TI} {g : TG} {f : Env → Mem → Res Src} {t : D → Env → Option Env} {ft : Env → Mem → Res Bool} {fe : Env → Mem → Res D} {pos spos py : Pos} {y : Str}
theorem m_setLc (i : Nat) (own : List (Str × Nat)) (hc : X.calm = true) (hN : X.N.Nodup) (hi : PI X tg iter wi) (hw : WalkI X.K X.mg W wi f) (ok : BlkOk X.N X.env.scope scope own) (htg : TgS X.K g t) (htw : TgW g (own.map (·.2)))
    (hg : ∀ (s : Shared) (H : Hp) (C : Addr) (cl : List (Str × Addr)) (fp : List Addr), PG (X.blk s H scope (compEnvC scope cl C X.env) fp) tg g)
    (ht : ∀ (s : Shared) (H : Hp) (C : Addr) (cl : List (Str × Addr)) (fp : List Addr), PTs (X.blk s H scope (compEnvC scope cl C X.env) fp) ifs (tT X.K X.mg W0 ft))
    (he : ∀ (s : Shared) (H : Hp) (C : Addr) (cl : List (Str × Addr)) (fp : List Addr), PE (X.blk s H scope (compEnvC scope cl C X.env) fp) elt (tE X.K X.mg W0 fe))
    (hix : X.N[i]? = some y := by rfl) (hyl : List.lookup y X.env.scope.names = some NameKind.local := by rfl)
    (hsw : swapsWith (elt.ListComp [{ target := tg, iter := iter, ifs := ifs, is_async := 0 }] scope pos) (some (Expr.Name y py)) spos.line X.env = pure true := by exact sw_true rfl rfl rfl (by decide +kernel))
    (hs : ∀ x, foldedSetIterable iter X.env x = pure x := by intro _; rfl) :
    PS X (.Assign [.Name y py] (.ListComp elt [{ target := tg, iter := iter, ifs := ifs, is_async := 0 }] scope pos) spos) (tS X.K X.mg W (sSet i (fComp (own.map (·.2)) f t ft fe))) := by
  refine PS.of (ps_setLc hc hN hix hyl hsw hi ok hg ht he hs) fun D σ H h => ?_
  obtain ⟨L, ρ, m, a, h⟩ := h
  have h2 := FinS.bind (rel := relV X.K) a h
  refine hw σ H _ L ρ m a ?_
  unfold fComp at h2
  refine (Fin.bind (rel := relJ X.K) h2).imp ?_
  rintro J H1 ⟨s, m1, L1, k1, r1, w, h1⟩
  refine fun D0 hD => comp_ok (Q := fun v H' => D.nx (σ.set i (some v)) H') w htg htw (a.mono k1 r1) (h1.imp ?_) D0 hD
  rintro v H2 ⟨d, m2, L2, k2, r2, i2, h3⟩
  exact h3 _ H2 L2 (Kp.refl H2 L2) ((a.mono k2 r2).set i i2)
end
/-- room for the def's own calls -/
theorem m_bad {P : Program} {w : World} {K : PySem.W.Frag} {mg : Str → Option Value} {base : Heap} {k n : Nat} {f : Addr} {fd : FuncData} {ps : List Str} (hn : ps.length = n) : FnOk P w K mg base (L2.CX P w) k f fd ps (spM K mg n fun _ _ => .bad) :=
  ⟨fun vs H Q E h => by rw [h.1, hn], fun A outer s H args us vs Q E _ _ _ _ h => by
    obtain ⟨_, L, ds, m, _, _, h⟩ := h
    exact h.elim⟩
end Mn
namespace Mn
open PySem L2
variable [Clo]
/-- a def of the text, as it stands behind the top -/
structure FunAt (K : PySem.W.Frag) (mg : Str → Option Value) (x : Str) (st : Stmt) (ps : List Str) : Prop where
  ex : ∃ (f : Addr) (fd : FuncData), Fun K x x st f fd ∧ Binds K fd ps [] ∧ mg x = some (.ref f)
theorem def_ok {P : Program} {w : World} {K : PySem.W.Frag} {mg : Str → Option Value} {base : Heap} {x : Str} {st : Stmt} {ps N : List Str} {k n : Nat} (A : FunAt K mg x st ps) (S : FnScope N ps (defScope st)) (hn : ps.length = n) (G : Env → Mem → Out)
    (hb : ∀ (f : Addr) (cdv : Value) (A : Around) (outer : List PySem.Env) (s : Shared) (H : Hp) (E : XK), Room k (A.deeper (PyProof.Rows.envOfC x (defScope st) s.heap.objs.size f cdv)) →
      PSs (cxOf (L2.CX P w) P w K mg base N x (defScope st) f cdv A outer s H E) (defBody st) (tS K mg (fun c d _ H => E c d H) G)) : DefOk P w K mg base (k + 1) x n (fnD N G) := by
  obtain ⟨f, fd, F, b, m⟩ := A.ex
  subst hn
  exact ⟨f, fd, ps, rfl, m_fn F S G (hb f), b, F.kp, m⟩
end Mn
namespace Mn
open PySem L2
variable [Clo]
theorem def_bad {P : Program} {w : World} {K : PySem.W.Frag} {mg : Str → Option Value} {base : Heap} {x : Str} {st : Stmt} {ps : List Str} {k n : Nat} (A : FunAt K mg x st ps) (hn : ps.length = n) : DefOk P w K mg base k x n (fun _ _ => .bad) := by
  obtain ⟨f, fd, F, b, m⟩ := A.ex
  subst hn
  exact ⟨f, fd, ps, rfl, m_bad rfl, b, F.kp, m⟩
end Mn
end
section
set_option Elab.async false
set_option Elab.async false
set_option linter.all false
set_option maxRecDepth 100000
set_option maxHeartbeats 2000000
namespace Mn
open PySem L2
variable [Clo]

/-! ### an exception is caught -/
/-- what is known of two own classes: the one raised, the one asked for -/
def ExcPair (K : PySem.W.Frag) (mg : Str → Option Value) (e C : Str) (b : Bool) : Prop :=
  ∃ D E : Addr, mg e = some (.ref D) ∧ mg C = some (.ref E) ∧ ExcC K D ∧ PySem.W.keepIn K (.ref E) = true ∧ PySem.W.exmOne K (.ref D) (.ref E) = some b ∧ PySem.W.kitOne K (.ref D) (.ref E) = some b
abbrev ETab := List (Str × Str × Bool)
def TabOk (K : PySem.W.Frag) (mg : Str → Option Value) (tab : ETab) : Prop := ∀ p ∈ tab, ExcPair K mg p.1 p.2.1 p.2.2
def subD : ETab → Str → Str → Option Bool
  | [], _, _ => none
  | (a, b, k) :: r, e, C => if a = e ∧ b = C then some k else subD r e C
theorem subD_ok {K : PySem.W.Frag} {mg : Str → Option Value} : ∀ {tab : ETab} {e C : Str} {b : Bool}, TabOk K mg tab → subD tab e C = some b → ExcPair K mg e C b
  | [], e, C, b, t, h => by cases h
  | (x, y, k) :: r, e, C, b, t, h => by
    unfold subD at h
    by_cases q : x = e ∧ y = C
    · rw [if_pos q] at h
      cases h
      have z := t _ (List.mem_cons_self)
      rw [← q.1, ← q.2]
      exact z
    · rw [if_neg q] at h
      exact subD_ok (fun p hp => t p (List.mem_cons_of_mem _ hp)) h
/-- the slot of the caught one is empty again -/
def clean (i : Nat) : Out → Out
  | .nx ρ m => .nx (ρ.set i none) m
  | .bk ρ m => .bk (ρ.set i none) m
  | .ct ρ m => .ct (ρ.set i none) m
  | .rt d m => .rt d m
  | .ex _ _ _ => .bad
  | .bad => .bad
def sTry (tab : ETab) (x : Str) (i : Nat) (F : Env → Mem → Out) (G : Exc → Addr → Env → Mem → Out) : Env → Mem → Out := fun ρ m => match F ρ m with
  | .ex e ρ' m' => match subD tab e.cls x with
    | some true => if e.fs.isEmpty then clean i (G e 0 (ρ'.set i (some (.raw 0))) m') else .bad
    | some false => .ex e ρ' m'
    | none => .bad
  | o => o
theorem At.unset {K : PySem.W.Frag} {σ : St} {H : Hp} {L : List Addr} {ρ : Env} {m : Mem} (a : At K σ H L ρ m) (i : Nat) : At K (σ.set i none) H L (ρ.set i none) m := by
  refine ⟨a.rep, by rw [List.length_set, List.length_set, a.len], fun j x e => ?_⟩
  by_cases q : i = j
  · subst q
    by_cases hi : i < ρ.length
    · rw [List.getElem?_set_self hi] at e
      cases e
    · rw [List.getElem?_eq_none (by rw [List.length_set]; omega)] at e
      cases e
  · rw [List.getElem?_set_ne q] at e
    obtain ⟨u, h1, h2⟩ := a.sl j x e
    exact ⟨u, by rw [List.getElem?_set_ne q]; exact h1, h2⟩
theorem fin_clean {K : PySem.W.Frag} {mg : Str → Option Value} {W : WX} {D : Ends} {H : Hp} {L : List Addr} {i : Nat} {o : Out} (h : FinS K mg W D H L (clean i o)) :
    FinS K mg W0 { nx := fun σ' H' => D.nx (σ'.set i none) H', rt := D.rt, bk := fun σ' H' => D.bk (σ'.set i none) H', ct := fun σ' H' => D.ct (σ'.set i none) H' } H L o := by
  cases o with
  | nx ρ m => exact fun σ' H' L' k a => h _ H' L' k (a.unset i)
  | bk ρ m => exact fun σ' H' L' k a => h _ H' L' k (a.unset i)
  | ct ρ m => exact fun σ' H' L' k a => h _ H' L' k (a.unset i)
  | rt d m => exact h
  | ex e ρ m => exact (show False from h).elim
  | bad => exact (show False from h).elim
section
variable {X : Cx} {W : WX} {x n : Str} {i : Nat} {body suite : List Stmt} {b₀ : Stmt} {np pos pos' : Pos} {F : Env → Mem → Out} {G : Exc → Addr → Env → Mem → Out} {tab : ETab}
theorem m_try (hN : X.N.Nodup) (hx : ∃ E : Addr, X.mg x = some (.ref E)) (ht : TabOk X.K X.mg tab) (tk : Takes X W)
    (hb : ∀ (W : WX) (pn : List (Addr × PySem.Obj)) (xe : Value → Shared → Prop), Takes (X.tr pn xe) W → PassesOwn (model X.prog X.w) X.A X.env xe → PSs (X.tr pn xe) body (tS X.K X.mg W F))
    (hsu : ∀ (e : Exc) (D a : Addr) (oe : PySem.Obj) (pn : List (Addr × PySem.Obj)), X.mg e.cls = some (.ref D) → ExcC X.K D → Zc (.ref D) none oe → (∃ vs, oe.data = .fields vs) → PSs (X.suite a ((a, oe) :: pn)) (b₀ :: suite) (tS X.K X.mg W0 (G e a)))
    (hind : ∀ (e : Exc) (a : Addr) (ρ : Env) (m : Mem), clean i (G e a (ρ.set i (some (.raw a))) m) = clean i (G e 0 (ρ.set i (some (.raw 0))) m))
    (hs : X.stack = X.env :: X.outer := by rfl) (hf : X.env.frame = some X.env.locals := by rfl) (hi : X.N[i]? = some n := by rfl) (hln : X.env.kindOf n = some .local := by rfl) (hg : Gl X x := by rfl) (hdb : (x == ("__debug__" : Str)) = false := by decide) :
    PS X (.Try body [.ExceptHandler (some (.Name x np)) (some n) (b₀ :: suite) pos'] [] [] pos) (tS X.K X.mg W (sTry tab x i F G)) := by
  obtain ⟨E, hx⟩ := hx
  refine PS.of (ps_try_as (c := .ref E) (ts := fun a cls d D σ H => ∃ (e : Exc) (DD : Addr), cls = .ref DD ∧ d = none ∧ X.mg e.cls = some (.ref DD) ∧ ExcC X.K DD ∧ tS X.K X.mg W0 (G e a) D σ H) hs hf hN hi hln ⟨hg, hdb, .inl hx⟩ tk hb (fun a oe cls d pn hz hfl => ⟨fun pins s σ H D I h => ?_⟩)) fun D σ H h => ?_
  · obtain ⟨e, DD, e1, e2, e3, e4, h⟩ := h
    subst e1 e2
    exact (hsu e DD a oe pn e3 e4 hz hfl).run pins s σ H D I h
  · obtain ⟨L, ρ, m, a, h⟩ := h
    refine ⟨L, ρ, m, a, ?_⟩
    unfold sTry at h
    cases q : F ρ m with
    | nx ρ' m' => rw [q] at h; exact h
    | rt d m' => rw [q] at h; exact h
    | bk ρ' m' => rw [q] at h; exact h
    | ct ρ' m' => rw [q] at h; exact h
    | bad => rw [q] at h; exact h
    | ex e ρ' m' =>
      simp only [q] at h
      rintro cls dd σ' H' L' k a' ⟨C0, gC, rfl, hfs⟩
      cases hb : subD tab e.cls x with
      | none =>
        simp only [hb] at h
        exact h.elim
      | some b =>
        obtain ⟨D1, E1, g1, g2, xc, _, em, _⟩ := subD_ok ht hb
        rw [gC] at g1
        cases g1
        rw [hx] at g2
        cases g2
        refine ⟨b, em, fun b1 ax hax => ?_, fun b0 => ?_⟩
        · subst b1
          simp only [hb] at h
          by_cases z : e.fs.isEmpty = true
          · rw [if_pos z, ← hind e ax ρ' m'] at h
            have zz : e.fs = [] := List.isEmpty_iff.mp z
            have hd : dd = none := by
              rcases hfs with ⟨_, h2⟩ | ⟨_, _, h1, _⟩
              · exact h2
              · exact absurd zz h1
            exact ⟨e, C0, rfl, hd, gC, xc, L', _, m', a'.set (d := .raw ax) (v := .ref ax) i (show V.ref ax = V.ref ax from rfl), fin_clean (FinS.mono h k)⟩
          · rw [if_neg z] at h
            exact h.elim
        · subst b0
          simp only [hb] at h
          exact h _ _ _ _ _ k a' ⟨C0, gC, rfl, hfs⟩
end
/-! ### its class is asked -/
def fIsE (tab : ETab) (C : Str) (i : Nat) (e : Exc) (a : Addr) : Env → Mem → Res D := fun ρ m => match ρ[i]? with
  | some (some (.raw b)) => if b = a then (match subD tab e.cls C with
    | some b => .ok (.bl b) m
    | none => .bad) else .bad
  | _ => .bad
theorem fIsE_set {tab : ETab} {C : Str} {i : Nat} {e : Exc} {a : Addr} {ρ : Env} {m : Mem} : fIsE tab C i e a (ρ.set i (some (.raw a))) m = if i < ρ.length then (match subD tab e.cls C with
    | some b => .ok (.bl b) m
    | none => .bad) else .bad := by
  unfold fIsE
  by_cases hi : i < ρ.length
  · rw [List.getElem?_set_self hi, if_pos hi]
    simp
  · rw [List.getElem?_eq_none (by rw [List.length_set]; omega), if_neg hi]
theorem clean_ret {i : Nat} {f : Env → Mem → Res D} {ρ : Env} {m : Mem} : clean i (sRet f ρ m) = match f ρ m with
    | .ok d m => .rt d m
    | _ => .bad := by
  unfold sRet resS
  cases f ρ m <;> rfl
section
variable {X : Cx} {W : WX} {C n : Str} {i : Nat} {e : Exc} {a D : Addr} {oe : PySem.Obj} {pn : List (Addr × PySem.Obj)} {p p1 p2 pos : Pos} {tab : ETab}
theorem m_isE (i : Nat) (hm : X.mg ("isinstance" : Str) = none) (ht : TabOk X.K X.mg tab) (hC : ∃ E : Addr, X.mg C = some (.ref E)) (gE : X.mg e.cls = some (.ref D)) (xc : ExcC X.K D) (hz : Zc (.ref D) none oe) (hf : ∃ vs, oe.data = .fields vs)
    (hN : X.N[i]? = some n := by rfl) (hv : Vis X.env.scope n := by first | exact Or.inl rfl | exact Or.inr (Or.inl rfl) | exact Or.inr (Or.inr rfl)) (hg : Gl X "isinstance" := by rfl) (hgx : Gl X C := by rfl) (hd : (n == ("__debug__" : Str)) = false := by decide) (hcd : (n == ("__classdict__" : Str)) = false := by decide)
    (hdx : (C == ("__debug__" : Str)) = false := by decide) (hpl : (backTo pos (starEach [.Name C p2] X.env)).any (·.1) = false := by rfl) :
    PE (X.suite a ((a, oe) :: pn)) (.Call (.Name "isinstance" p) [.Name n p1, .Name C p2] [] pos) (tE X.K X.mg W (fIsE tab C i e a)) := by
  obtain ⟨E, hC⟩ := hC
  refine PE.of (pe_callB (X := X.suite a ((a, oe) :: pn)) (call_isE xc hz hf) hg hm (by decide +kernel) (pa_cons (pe_var hN hv hd hcd) (pa_cons (pe_glob hgx hC (v := .ref E) rfl hdx) pa_nil rfl) rfl) (by decide) (by decide) rfl hpl) fun σ H Q h => ?_
  obtain ⟨L, ρ, m, ha, h⟩ := h
  unfold fIsE at h
  cases q : ρ[i]? with
  | none =>
    rw [q] at h
    exact h.elim
  | some o =>
    cases o with
    | none =>
      rw [q] at h
      exact h.elim
    | some d =>
      cases d with
      | raw b =>
        simp only [q] at h
        by_cases z : b = a
        · rw [if_pos z] at h
          cases hb : subD tab e.cls C with
          | none =>
            simp only [hb] at h
            exact h.elim
          | some k =>
            simp only [hb] at h
            obtain ⟨D1, E1, g1, g2, _, _, _, kt⟩ := subD_ok ht hb
            rw [gE] at g1
            cases g1
            rw [hC] at g2
            cases g2
            obtain ⟨v, h1, h2⟩ := ha.sl i _ q
            have ev : v = .ref b := h2
            subst ev
            subst z
            refine ⟨.ref b, h1, ?_⟩
            exact ⟨.ref E, .ref E, k, rfl, fun u r => r, kt, Fin.ok (rel := relV X.K) h ha.rep rfl⟩
        · rw [if_neg z] at h
          exact h.elim
      | _ =>
        simp only [q] at h
        exact h.elim
end
end Mn
namespace Mn
theorem clean_if {i : Nat} {g : Env → Mem → Res Bool} {F G : Env → Mem → Out} {ρ : Env} {m : Mem} : clean i (sIf g F G ρ m) = match g ρ m with
    | .ok b m => (match b with | true => clean i (F ρ m) | false => clean i (G ρ m))
    | _ => .bad := by
  unfold sIf resS
  cases g ρ m with
  | ok b m => cases b <;> rfl
  | _ => rfl
end Mn
end
section
set_option Elab.async false
set_option Elab.async false
set_option linter.all false
set_option maxRecDepth 100000
set_option maxHeartbeats 4000000
namespace Mn
open PySem PySem.Spec PyProof.Rows L2 LamX

/-! ### a lambda is made -/
def objφ (f : Addr) (o : PySem.Obj) : Heap → Prop := fun h => h.get? f = some o
abbrev lamObj (q : Str) (params : Arguments) (body : Expr) (scope : Scope) (cl : List (Str × Addr)) (dV doc pm : Value) (c' : Addr) (ctv : Value) : PySem.Obj := PySem.W.kdv_obj "<lambda>" q params (.expr body) scope cl dV doc pm c' ctv
/-- what the making of a lambda keeps -/
structure Made (T : List (Addr × Str)) (q : Str) (H H1 : Hp) (f c' : Addr) (φ : Heap → Prop) : Prop where
  ext : ExtN H H1
  tabs : Tabs T H1
  tbls : ∀ a ps, H a = some (.tbl ps) → ∃ qs, H1 a = some (.tbl qs)
  new : H f = none
  obj : H1 f = some (.ext φ)
  cold : H c' = none ∨ H c' = some (CodeO c' q)
  code : H1 c' = some (CodeO c' q)
section
variable {X : Cx} {pins : List (Addr × PySem.Obj)} {σ : L2.St} {H : Hp} {s : Shared}
theorem lam_tail {T : List (Addr × Str)} {c P : Addr} {params : Arguments} {body : Expr} {scope : Scope} {pos : Pos} {dV : Value} {E : Value → Shared → Prop} {Q : Value → Shared → Prop} (I : Inv X pins σ H s) (TB : TabB X.base X.mg c P) (hcode : X.env.code = .ref c)
    (hm : (P, X.env.qual ++ "<lambda>") ∈ T) (hu : ∀ p ∈ T, p.1 = P → p.2 = X.env.qual ++ "<lambda>") (hT : Tabs T H) (hfree : ∀ y ∈ scope.names, y.2 = .free → ∃ c, X.env.cells.lookup y.1 = some c)
    (h : ∀ (f c' : Addr) (pm ctv doc : Value) (H1 : Hp) (s' : Shared), Inv X pins σ H1 s' →
      Made T (X.env.qual ++ "<lambda>") H H1 f c' (objφ f (lamObj (X.env.qual ++ "<lambda>") params body scope (cloFrom X.env.cells scope.names []) dV doc pm c' ctv)) → Q (.ref f) s') :
    wpAny (model X.prog X.w) X.A (makeTail "<lambda>" (X.env.qual ++ "<lambda>") params (.expr body) scope X.env dV .none none pos pos.line) Q E s := by
  obtain ⟨ps, hP, ht, ha⟩ := hT _ hm
  have bP : s.heap.BuiltinsAt X.mg P := TB.bm.keeps I.bk
  have hP' : s.heap.get? P = some { cls := .none, data := .fields ps } := I.hok P _ hP
  cases hc : codeAmong pos ps.toList with
  | none =>
    refine PySem.W.kdv_makeTail (mg := X.mg) (c := c) (P := P) (ps := ps) (closure_ok hfree) I.ok.glob (I.mod.glob.keeps I.bk) hcode (TB.code.keeps I.bk) hP' ht hc TB.gP bP fun c' ctv doc h' tk hx hge hlt hrec htb => ?_
    obtain ⟨c2, oc, vs, t, e2, hoc, hd, hv⟩ := hrec
    cases e2
    have hsz : s.heap.objs.size ≤ h'.objs.size := Nat.le_trans hge (Nat.le_of_lt hlt)
    have nC : H c' = none := I.hok.fresh hge
    have nF : H h'.objs.size = none := I.hok.fresh hsz
    have I1 := inv_table (t' := tk) (more := #[rawInt pos.line, rawInt pos.col, .ref c']) (h' := h') I hP (fun b o hb e => hx b o hb e) htb hge ⟨oc, vs, t, hoc, hd, hv⟩
    have n1 : h'.objs.size ≠ c' := Nat.ne_of_gt hlt
    have n2 : h'.objs.size ≠ P := Nat.ne_of_gt (Nat.lt_of_lt_of_le (Heap.lt_size hP') hsz)
    have nPc : P ≠ c' := ne_of_none hP nC
    have I2 := I1.laid (a := h'.objs.size) (o := .ext (objφ h'.objs.size (lamObj (X.env.qual ++ "<lambda>") params body scope (cloFrom X.env.cells scope.names []) dV doc ((X.mg "__name__").getD .none) c' ctv))) (t' := tk)
      (h' := h'.push (lamObj (X.env.qual ++ "<lambda>") params body scope (cloFrom X.env.cells scope.names []) dV doc ((X.mg "__name__").getD .none) c' ctv))
      (fun b o e => Heap.get?_push_of_some _ e) (Nat.le_refl _) ⟨Heap.get?_push_size _ rfl, ⟨_, Heap.get?_push_size _ rfl⟩, fun h1 h2 a b => b _ a⟩
    have hE : ExtN H (upd (upd H P (.tbl (ps ++ #[rawInt pos.line, rawInt pos.col, .ref c']))) c' (CodeO c' (X.env.qual ++ "<lambda>"))) := fun b o e n => by
      rw [upd_ne (ne_of_none e nC), upd_ne (fun z => n ps (Option.some.inj (e.symm.trans (by rw [z]; exact hP))))]
      exact e
    have nF1 : (upd (upd H P (.tbl (ps ++ #[rawInt pos.line, rawInt pos.col, .ref c']))) c' (CodeO c' (X.env.qual ++ "<lambda>"))) h'.objs.size = none := by rw [upd_ne n1, upd_ne n2]; exact nF
    have eL : (ps ++ #[rawInt pos.line, rawInt pos.col, .ref c']).toList = ps.toList ++ [rawInt pos.line, rawInt pos.col, .ref c'] := by simp
    have T1 : Tabs T (upd (upd H P (.tbl (ps ++ #[rawInt pos.line, rawInt pos.col, .ref c']))) c' (CodeO c' (X.env.qual ++ "<lambda>"))) := fun p hp => by
      by_cases hb : p.1 = P
      · rw [hu p hp hb, hb]
        refine ⟨_, by rw [upd_ne nPc, upd_same], by rw [eL]; exact PySem.TriplesOk_snoc _ _ _ _ ht, fun p' cv hcv => ?_⟩
        rw [eL] at hcv
        rcases among_app _ ht hcv with z | z
        · obtain ⟨c0, e1, e2⟩ := ha p' cv z
          exact ⟨c0, e1, hE _ _ e2 codeO_ne⟩
        · exact ⟨c', z, upd_same⟩
      · obtain ⟨ps', a1, a2, a3⟩ := hT p hp
        refine ⟨ps', by rw [upd_ne (ne_of_none a1 nC), upd_ne hb]; exact a1, a2, fun p' cv hcv => ?_⟩
        obtain ⟨c0, e1, e2⟩ := a3 p' cv hcv
        exact ⟨c0, e1, hE _ _ e2 codeO_ne⟩
    refine h h'.objs.size c' _ ctv doc _ _ I2 ⟨fun b o e n => ?_, T1.ext fun b o e => by rw [upd_ne (ne_of_none e nF1)]; exact e, fun a qs e => ?_, nF, upd_same, .inl nC, by rw [upd_ne (Ne.symm n1)]; exact upd_same⟩
    · rw [upd_ne (ne_of_none (hE b o e n) nF1)]
      exact hE b o e n
    · have na : a ≠ h'.objs.size := ne_of_none e nF
      by_cases hb : a = P
      · rw [hb, upd_ne (Ne.symm n2), upd_ne nPc, upd_same]
        exact ⟨_, rfl⟩
      · rw [upd_ne na, upd_ne (ne_of_none e nC), upd_ne hb]
        exact ⟨_, e⟩
  | some cv =>
    obtain ⟨c', e, hco⟩ := ha pos cv hc
    subst e
    refine PySem.W.kdv_makeTailHit (mg := X.mg) (c := c) (P := P) (ps := ps) (closure_ok hfree) I.ok.glob (I.mod.glob.keeps I.bk) hcode (TB.code.keeps I.bk) hP' ht hc bP fun ctv doc h' tk hx hsz => ?_
    have I1 : Inv X pins σ H { s with heap := h', toks := tk } := I.kept fun b o e => hx b o e
    have nF : H h'.objs.size = none := I.hok.fresh hsz
    have I2 := I1.laid (a := h'.objs.size) (o := .ext (objφ h'.objs.size (lamObj (X.env.qual ++ "<lambda>") params body scope (cloFrom X.env.cells scope.names []) dV doc ((X.mg "__name__").getD .none) c' ctv))) (t' := tk)
      (h' := h'.push (lamObj (X.env.qual ++ "<lambda>") params body scope (cloFrom X.env.cells scope.names []) dV doc ((X.mg "__name__").getD .none) c' ctv))
      (fun b o e => Heap.get?_push_of_some _ e) (Nat.le_refl _) ⟨Heap.get?_push_size _ rfl, ⟨_, Heap.get?_push_size _ rfl⟩, fun h1 h2 a b => b _ a⟩
    refine h h'.objs.size c' _ ctv doc _ _ I2 ⟨fun b o e n => ?_, hT.ext fun b o e => ?_, fun a qs e => ⟨qs, ?_⟩, nF, upd_same, .inr hco, ?_⟩
    · rw [upd_ne (ne_of_none e nF)]; exact e
    · rw [upd_ne (ne_of_none e nF)]; exact e
    · rw [upd_ne (ne_of_none e nF)]; exact e
    · rw [upd_ne (ne_of_none hco nF)]; exact hco
/-- a lambda without defaults -/
theorem lam_made0 {T : List (Addr × Str)} {c P : Addr} {params : Arguments} {body : Expr} {scope : Scope} {pos : Pos} {E : Value → Shared → Prop} {Q : Value → Shared → Prop} (I : Inv X pins σ H s) (TB : TabB X.base X.mg c P) (hcode : X.env.code = .ref c)
    (hm : (P, X.env.qual ++ "<lambda>") ∈ T) (hu : ∀ p ∈ T, p.1 = P → p.2 = X.env.qual ++ "<lambda>") (hT : Tabs T H) (hfree : ∀ y ∈ scope.names, y.2 = .free → ∃ c, X.env.cells.lookup y.1 = some c) (hdef : defaultsOf params X.env = ([], []))
    (h : ∀ (f c' : Addr) (pm ctv doc : Value) (H1 : Hp) (s' : Shared), Inv X pins σ H1 s' →
      Made T (X.env.qual ++ "<lambda>") H H1 f c' (objφ f (lamObj (X.env.qual ++ "<lambda>") params body scope (cloFrom X.env.cells scope.names []) .none doc pm c' ctv)) → Q (.ref f) s') :
    wpAny (model X.prog X.w) X.A (eval (.Lambda params body scope pos) X.env) Q E s := by
  refine PySem.W.kla_eval hdef ?_
  rw [makeFunction_eq]
  simp only [List.zip_nil_right, List.filterMap_nil, List.isEmpty_nil, if_true, pure_bind]
  exact lam_tail I TB hcode hm hu hT hfree h
/-- a lambda with one default, an int -/
theorem lam_made1 {T : List (Addr × Str)} {c P : Addr} {params : Arguments} {body : Expr} {scope : Scope} {pos p1 : Pos} {i : Int} {j : Nat} {Q : Value → Shared → Prop} (I : Inv X pins σ H s) (TB : TabB X.base X.mg c P) (hcode : X.env.code = .ref c)
    (hm : (P, X.env.qual ++ "<lambda>") ∈ T) (hu : ∀ p ∈ T, p.1 = P → p.2 = X.env.qual ++ "<lambda>") (hT : Tabs T H) (hfree : ∀ y ∈ scope.names, y.2 = .free → ∃ c, X.env.cells.lookup y.1 = some c) (hd : params.defaults = [.Constant (.int i) j p1]) (hk : params.kw_defaults = [])
    (h : ∀ (f c' t : Addr) (pm ctv doc : Value) (H0 H1 : Hp) (s' : Shared), Inv X pins σ H1 s' → H t = none → H0 = upd H t (.tup [.int i]) →
      Made T (X.env.qual ++ "<lambda>") H0 H1 f c' (objφ f (lamObj (X.env.qual ++ "<lambda>") params body scope (cloFrom X.env.cells scope.names []) (.ref t) doc pm c' ctv)) → Q (.ref f) s') :
    wpAny (model X.prog X.w) X.A (eval (.Lambda params body scope pos) X.env) Q X.xe s := by
  refine PySem.W.kdv_lam (by rw [hd]; rfl) hk ?_
  rw [hd]
  refine PySem.W.kdv_all1 (thn ((pe_int (X := X)).run pins s σ H (fun v H1 => v = .int i ∧ H1 = H) I ⟨rfl, rfl⟩) fun u s1 ⟨v, H1, I1, r1, q1⟩ => PySem.W.kdv_all0 ?_)
  obtain ⟨ev, eH⟩ := q1
  subst ev
  rw [eH] at I1
  rw [makeFunction_eq]
  simp only [List.zip_nil_right, List.filterMap_nil, List.isEmpty_nil, if_true, pure_bind, List.isEmpty_cons, Bool.false_eq_true, if_false]
  refine wpAny_bind (wpAny_newTextTuple ?_)
  have nt : H s1.heap.objs.size = none := I1.hok.fresh (Nat.le_refl _)
  have I2 := I1.laid (a := s1.heap.objs.size) (o := .tup [.int i]) (t' := s1.toks) (h' := s1.heap.push { cls := .type "tuple", data := .seq [u].toArray }) (fun b o e => Heap.get?_push_of_some _ e) (Nat.le_refl _) ⟨by show 1 ≤ sizeLine; rw [sizeLine_eq]; omega, [u], .cons r1 .nil, ⟨_, Heap.get?_push_size _ rfl, rfl, _, rfl⟩⟩
  have hT2 : Tabs T (upd H s1.heap.objs.size (.tup [.int i])) := hT.ext fun b o e => by rw [upd_ne (ne_of_none e nt)]; exact e
  exact lam_tail I2 TB hcode hm hu hT2 hfree fun f c' pm ctv doc H1 s' I3 M => h f c' _ pm ctv doc _ H1 s' I3 nt rfl M
end
end Mn
end
section
set_option Elab.async false
set_option Elab.async false
set_option linter.all false
set_option maxRecDepth 100000
set_option maxHeartbeats 4000000
namespace Mn
open PySem PySem.Spec PyProof.Rows L2 LamX

structure Lam where
  ps : Arguments
  body : Expr
  sc : Scope
  d : Option Int
def lamOf (d : Option Int) : Expr → Lam
  | .Lambda ps b sc _ => ⟨ps, b, sc, d⟩
  | e => ⟨{ posonlyargs := [], args := [], vararg := none, kwonlyargs := [], kw_defaults := [], kwarg := none, defaults := [] }, e, default, d⟩
abbrev lamFn (q : Str) (l : Lam) (cl : List (Str × Addr)) (dV doc pm cv ctv : Value) : FuncData := PySem.W.kdv_fn "<lambda>" q l.ps (.expr l.body) l.sc cl dV doc pm cv ctv
/-- what is plain to see of a lambda: its names, its parameters -/
structure LamB (sc : Scope) (N : List Str) (l : Lam) : Prop where
  kind : l.sc.kind = .function
  co : l.sc.isCoroutine = false
  gen : l.sc.isGenerator = false
  own : ∀ y ∈ l.sc.names, y.2 ≠ .cell ∧ (y.2 = .local → y.1 ∉ N)
  free : ∀ y ∈ l.sc.names, y.2 = .free → sc.names.lookup y.1 = some .cell ∨ sc.names.lookup y.1 = some .free
  def0 : l.d = none → (∀ env, defaultsOf l.ps env = ([], [])) ∧ ∀ q cl doc pm cv ctv, bindArgs (lamFn q l cl .none doc pm cv ctv) ⟨[], []⟩ = pure []
  def1 : ∀ i, l.d = some i → (∃ j p, l.ps.defaults = [.Constant (.int i) j p]) ∧ l.ps.kw_defaults = [] ∧ ∃ par, l.sc.names.lookup par = some .local ∧ ∀ q cl (t : Addr) doc pm cv ctv (u : Value), ∃ kk, bindArgs (lamFn q l cl (.ref t) doc pm cv ctv) ⟨[], []⟩ = seqItems? (.ref t) >>= kk ∧ kk (some #[u]) = pure [(par, u)]
def lamOwn (sc : Scope) (N : List Str) (l : Lam) : Bool :=
  decide (l.sc.kind = .function) && !l.sc.isCoroutine && !l.sc.isGenerator && l.sc.names.all fun y => !decide (y.2 = .cell) && (!decide (y.2 = .local) || !decide (y.1 ∈ N)) && (!decide (y.2 = .free) || decide (sc.names.lookup y.1 = some .cell) || decide (sc.names.lookup y.1 = some .free))
theorem lamB_by {sc : Scope} {N : List Str} {l : Lam} (h : lamOwn sc N l = true) (d0 : l.d = none → (∀ env, defaultsOf l.ps env = ([], [])) ∧ ∀ q cl doc pm cv ctv, bindArgs (lamFn q l cl .none doc pm cv ctv) ⟨[], []⟩ = pure [])
    (d1 : ∀ i, l.d = some i → (∃ j p, l.ps.defaults = [.Constant (.int i) j p]) ∧ l.ps.kw_defaults = [] ∧ ∃ par, l.sc.names.lookup par = some .local ∧ ∀ q cl (t : Addr) doc pm cv ctv (u : Value), ∃ kk, bindArgs (lamFn q l cl (.ref t) doc pm cv ctv) ⟨[], []⟩ = seqItems? (.ref t) >>= kk ∧ kk (some #[u]) = pure [(par, u)]) : LamB sc N l := by
  unfold lamOwn at h
  simp only [Bool.and_eq_true, Bool.or_eq_true, Bool.not_eq_true', decide_eq_true_eq, decide_eq_false_iff_not, List.all_eq_true] at h
  obtain ⟨⟨⟨h1, h2⟩, h3⟩, h4⟩ := h
  refine ⟨h1, h2, h3, fun y hy => ⟨(h4 y hy).1.1, fun e => (h4 y hy).1.2.resolve_left fun z => z e⟩, fun y hy e => ?_, d0, d1⟩
  rcases (h4 y hy).2 with (z | z) | z
  · exact absurd e z
  · exact .inl z
  · exact .inr z
def lamP (q : Str) (cells : List (Str × Addr)) (lam : Nat → Lam) (k : Nat) (a c t : Addr) (φ : Heap → Prop) : Prop :=
  ∃ pm ctv doc, φ = objφ a (lamObj q (lam k).ps (lam k).body (lam k).sc (cloFrom cells (lam k).sc.names []) (match (lam k).d with | none => .none | some _ => .ref t) doc pm c ctv)
structure LawClo [Clo] (X : Cx) (lam : Nat → Lam) (P0 : Addr) : Prop where
  hq : Clo.q = X.env.qual ++ "<lambda>"
  hT : Clo.T = [(P0, X.env.qual ++ "<lambda>")]
  hP : Clo.P = lamP (X.env.qual ++ "<lambda>") X.env.cells lam
  hd : Clo.dv = fun k => (lam k).d.map fun i => [V.int i]
theorem LamB.has {X : Cx} {l : Lam} {N : List Str} (L : LamB X.env.scope N l) (ok : X.Ok) : ∀ y ∈ l.sc.names, y.2 = .free → ∃ c, X.env.cells.lookup y.1 = some c := fun y hy e => by
  rcases L.free y hy e with k | k
  · exact ok.has _ (.inl k)
  · exact ok.has _ (.inr k)
section
variable [Clo]
theorem Rep.notin {K H L m} (r : Rep K H L m) {a : Addr} (h : H a = none ∨ (∃ φ, H a = some (.ext φ)) ∨ ∃ xs, H a = some (.tup xs)) : a ∉ L := fun z => by
  obtain ⟨n, hn, e⟩ := List.getElem_of_mem z
  have hm : n < m.length := by rw [← r.len]; exact hn
  have o := r.ob n a m[n] (by rw [List.getElem?_eq_getElem hn, e]) (List.getElem?_eq_getElem hm)
  cases q : m[n] with
  | lst ds =>
    rw [q] at o
    obtain ⟨vs, h1, _⟩ := o
    rcases h with h | ⟨φ, h⟩ | ⟨xs, h⟩ <;> rw [h1] at h <;> cases h
  | dic ks ds =>
    rw [q] at o
    obtain ⟨vs, h1, _⟩ := o
    rcases h with h | ⟨φ, h⟩ | ⟨xs, h⟩ <;> rw [h1] at h <;> cases h
theorem Rep.ext {K H L m H'} (r : Rep K H L m) (k : Kp H L H' L) (e : ExtN H H') : Rep K H' L m := by
  refine ⟨r.len, r.nd, fun n a u e1 e2 => ?_, k.tabs r.tab, Clo.jm _ _ _ _ k r.j⟩
  have o := r.ob n a u e1 e2
  cases u with
  | lst ds =>
    obtain ⟨vs, h1, h2⟩ := o
    exact ⟨vs, e _ _ h1 (fun ps z => by cases z), k.isL _ h2⟩
  | dic ks ds =>
    obtain ⟨vs, h1, h2, h3⟩ := o
    exact ⟨vs, e _ _ h1 (fun ps z => by cases z), h2, k.isL _ h3⟩
theorem Made.kp {T q H H1 f c' φ} (M : Made T q H H1 f c' φ) (hT : Clo.T = T) (L : List Addr) : Kp H L H1 L :=
  ⟨⟨[], by simp⟩, fun a o _ e n => M.ext a o e n, M.tbls, fun a i n => absurd i n, fun _ => by rw [hT]; exact M.tabs⟩
section
variable {X : Cx} {W : WX} {lam : Nat → Lam} {P0 c : Addr} {pos : Pos}
/-- a lambda of the law's body -/
theorem m_lam0 (k : Nat) (lc : LawClo X lam P0) (TB : TabB X.base X.mg c P0) (hcode : X.env.code = .ref c) (LB : LamB X.env.scope X.N (lam k)) (hd : (lam k).d = none) :
    PE X (.Lambda (lam k).ps (lam k).body (lam k).sc pos) (tE X.K X.mg W (fC (.clo k))) := by
  refine ⟨fun pins s σ H Q I h => ?_⟩
  obtain ⟨L, ρ, m, a, h⟩ := h
  refine lam_made0 I TB hcode (T := [(P0, X.env.qual ++ "<lambda>")]) (List.mem_singleton.mpr rfl) (fun p hp _ => by rw [List.mem_singleton.mp hp]) (by rw [← lc.hT]; exact a.rep.tab) (LB.has I.ok) ((LB.def0 hd).1 _) fun f c' pm ctv doc H1 s' I1 M => ?_
  have kp := M.kp lc.hT L
  have r1 := a.rep.ext kp M.ext
  refine ⟨.ref f, H1, I1, rfl, h _ H1 L kp r1 ?_⟩
  refine ⟨f, c', 0, _, rfl, M.obj, r1.notin (.inr (.inl ⟨_, M.obj⟩)), by rw [lc.hq]; exact M.code, r1.notin (.inr (.inl ⟨_, M.code⟩)), fun vs e => ?_, ?_⟩
  · rw [lc.hd] at e
    simp only [hd] at e
    cases e
  · rw [lc.hP]
    refine ⟨pm, ctv, doc, ?_⟩
    rw [hd]
theorem m_lam1 (k : Nat) (lc : LawClo X lam P0) (TB : TabB X.base X.mg c P0) (hcode : X.env.code = .ref c) (LB : LamB X.env.scope X.N (lam k)) {i : Int} (hd : (lam k).d = some i) :
    PE X (.Lambda (lam k).ps (lam k).body (lam k).sc pos) (tE X.K X.mg W (fC (.clo k))) := by
  refine ⟨fun pins s σ H Q I h => ?_⟩
  obtain ⟨L, ρ, m, a, h⟩ := h
  obtain ⟨⟨j, p, d1⟩, d2, _⟩ := LB.def1 i hd
  refine lam_made1 I TB hcode (T := [(P0, X.env.qual ++ "<lambda>")]) (List.mem_singleton.mpr rfl) (fun p hp _ => by rw [List.mem_singleton.mp hp]) (by rw [← lc.hT]; exact a.rep.tab) (LB.has I.ok) d1 d2 fun f c' t pm ctv doc H0 H1 s' I1 nt e0 M => ?_
  subst e0
  have kp0 : Kp H L (upd H t (.tup [.int i])) L := Kp.new_ nt
  have r0 := a.rep.new_ (o := .tup [.int i]) nt
  have kp := M.kp lc.hT L
  have r1 := r0.ext kp M.ext
  have ht : H1 t = some (.tup [.int i]) := M.ext _ _ upd_same (fun ps z => by cases z)
  refine ⟨.ref f, H1, I1, rfl, h _ H1 L (kp0.trans kp) r1 ?_⟩
  refine ⟨f, c', t, _, rfl, M.obj, r1.notin (.inr (.inl ⟨_, M.obj⟩)), by rw [lc.hq]; exact M.code, r1.notin (.inr (.inl ⟨_, M.code⟩)), fun vs e => ?_, ?_⟩
  · rw [lc.hd] at e
    simp only [hd] at e
    cases e
    exact ⟨ht, r1.notin (.inr (.inr ⟨_, ht⟩))⟩
  · rw [lc.hP]
    refine ⟨pm, ctv, doc, ?_⟩
    rw [hd]
/-! ### it is called -/
def fAct (i : Nat) (A : Nat → Mem → Res D) : Env → Mem → Res D := fun ρ m => match ρ[i]? with
  | some (some (.clo k)) => A k m
  | _ => .bad
variable {pins : List (Addr × PySem.Obj)} {σ : L2.St} {H HZ : Hp} {s s1 : Shared}
theorem lam_start3 {A : Around} {outer : List PySem.Env} {E : XK} {l : Lam} {f c' : Addr} {h₁ : Heap} {tk : Nat} {binds : List (Str × Value)} (I : Inv X pins σ H s) (L : LamB X.env.scope X.N l) (e0 : Env0 X.prog X.w X.K X.mg X.base A outer s1 HZ) (hd : A.handled = none)
    (un : Un (frs X.stack) [] H HZ s.heap s1.heap) (hns : h₁.Ns s1.heap.objs.size fun y => binds.reverse.lookup y) (kp : ∀ b o, s1.heap.get? b = some o → h₁.get? b = some o) :
    Inv (lamCx X A outer s1 HZ E l.sc f c') [] σ HZ { s1 with heap := h₁, toks := tk } := by
  have hfree := L.has I.ok
  have cm : ∀ {y c}, (cloFrom X.env.cells l.sc.names []).lookup y = some c → X.env.cells.lookup y = some c := fun {y c} e => by
    rcases cloFrom_mem (PySem.mem_of_lookup e) with hm | ⟨h1, h2⟩
    · cases hm
    · obtain ⟨c1, hc⟩ := hfree _ h1 rfl
      have hc : X.env.cells.lookup y = some c1 := hc
      have e2 : c = c1 := by
        rw [h2, hc] <;> rfl
      rw [e2]
      exact hc
  have look : ∀ {y}, l.sc.names.lookup y = some .free → ∃ c, (cloFrom X.env.cells l.sc.names []).lookup y = some c := fun {y} hl => by
    have hy : (y, NameKind.free) ∈ l.sc.names := PySem.mem_of_lookup hl
    exact mem_lookup (cloFrom_has (cells := X.env.cells) (acc := []) hy)
  have cellK : ∀ {c : Addr} {v : Option Value}, H c = none → s.heap.IsCell c v → h₁.IsCell c v := fun {c v} n ⟨o, ho, hd⟩ => by
    obtain ⟨sl, q⟩ := un.any ho n (by simp)
    exact ⟨_, kp _ _ q, hd⟩
  have noA : ∀ b : Addr, b ∉ (lamCx X A outer s1 HZ E l.sc f c').ex := fun b z => absurd (show b ∈ ([] : List Addr) from z) (by simp)
  refine ⟨⟨e0.mod, L.kind, rfl, rfl, Nat.le_refl _, fun y z c e1 e2 => I.ok.inj y z c (cm e1) (cm e2), fun y hy => ?_, fun y c z _ => ?_, fun _ => hd, Around.frames_deeper e0.frames, .inr ⟨rfl, rfl⟩, fun b z => absurd z (noA b), e0.bs, e0.bsz, fun b _ _ => noA b,
      fun b z => absurd z (noA b), e0.funs, e0.frf⟩,
    rfl, e0.bare, Un.kept kp, ⟨_, hns, fun i y v e1 e2 e3 => ?_⟩, fun y c e => ?_, e0.hok.fresh (Nat.le_refl _), fun y c e => ?_, fun q hq => absurd (show q ∈ ([] : List (Addr × PySem.Obj)) ++ [] from hq) (by simp), e0.hok.kept kp, I.len⟩
  · have hy : l.sc.names.lookup y = some .cell ∨ l.sc.names.lookup y = some .free := hy
    rcases hy with hy | hy
    · exact absurd rfl (L.own _ (PySem.mem_of_lookup hy)).1
    · exact look hy
  · have z : false = true := z
    cases z
  · have e3 : Vis l.sc y := e3
    have e1 : X.N[i]? = some y := e1
    rcases e3 with k | k | k
    · exact absurd (List.mem_of_getElem? e1) ((L.own _ (PySem.mem_of_lookup k)).2 rfl)
    · exact absurd rfl (L.own _ (PySem.mem_of_lookup k)).1
    · obtain ⟨m, hn, hl⟩ := I.loc
      have hvis : Vis X.env.scope y := (L.free _ (PySem.mem_of_lookup k) rfl).elim (fun k => .inr (.inl k)) (fun k => .inr (.inr k))
      obtain ⟨w', r, q⟩ := hl i y v e1 e2 hvis
      obtain ⟨c2, h2⟩ := look k
      refine ⟨w', r, .inr ⟨.inr k, c2, h2, ?_⟩⟩
      have c1 := cm h2
      rcases q with ⟨k', _⟩ | ⟨_, c3, e', z⟩
      · have k' : X.env.scope.names.lookup y = some .local := k'
        rcases L.free _ (PySem.mem_of_lookup k) rfl with k2 | k2 <;> rw [show X.env.scope.names.lookup y = _ from k2] at k' <;> cases k'
      · rw [c1] at e'
        cases e'
        exact cellK (I.freeC y _ c1) z
  · obtain ⟨w', z⟩ := I.cell y c (cm e)
    exact ⟨w', cellK (I.freeC y c (cm e)) z⟩
  · obtain ⟨v, o, ho, hd⟩ := I.cell y c (cm e)
    exact un.free c o ho (I.freeC y c (cm e)) (by simp)
theorem lam_binds {l : Lam} {sc : Scope} {N : List Str} (LB : LamB sc N l) {q : Str} {cl : List (Str × Addr)} {doc pm cv ctv : Value} {t : Addr} {P : Program} {w : World} (hk : HOk P w HZ s1.heap) (ht : ∀ i, l.d = some i → HZ t = some (.tup [.int i])) :
    ∃ binds : List (Str × Value), BindsTo s1 (lamFn q l cl (match l.d with | none => .none | some _ => .ref t) doc pm cv ctv) ⟨[], []⟩ binds ∧ ∀ y ∈ binds, l.sc.names.lookup y.1 = some .local := by
  cases hd : l.d with
  | none => exact ⟨[], BindsTo.of_eq ((LB.def0 hd).2 q cl doc pm cv ctv), fun y hy => absurd hy (by simp)⟩
  | some i =>
    obtain ⟨_, _, par, hp, hb⟩ := LB.def1 i hd
    obtain ⟨_, its, rv, o, ho, _, n, hs⟩ := hk t _ (ht i hd)
    cases rv with
    | cons r1 r2 =>
      cases r2
      obtain ⟨kk, h1, h2⟩ := hb q cl t doc pm cv ctv _
      refine ⟨[(par, _)], BindsTo.of_defaults rfl ho hs h1 h2, fun y hy => ?_⟩
      rw [List.mem_singleton.mp hy]
      exact hp
theorem m_act {CXg : CXT} {Eg : XK} {Ng : List Str} {qg : Str} {sg : Scope} {g : Addr} {cdg : Value} {kk i : Nat} {a : Str} {pn : List (Addr × PySem.Obj)} {xe : Value → Shared → Prop} {ρ : Env} {L0 : List Addr} {p1 p2 : Pos} {n : Nat} {sem : Nat → Env → Mem → Res D}
    (I : Inv X pins σ H s) (lc : LawClo X lam P0) (hj : ∀ H' L', Clo.J H' L' → Kp H L0 H' L') (hlen : σ.length = ρ.length) (a0 : ∀ (i : Nat) (d : D), ρ[i]? = some (some d) → ∃ v, σ[i]? = some (some v) ∧ Is X.K L0 H d v)
    (hL : ∀ k, k < n → LamB X.env.scope X.N (lam k))
    (tk : Takes ((cxOf CXg X.prog X.w X.K X.mg X.base Ng qg sg g cdg X.A X.stack s H Eg).tr pn xe) W) (hr : Room (kk + 1) (X.A.deeper (envOfC qg sg s.heap.objs.size g cdg)))
    (hsem : ∀ k, k < n → ∀ (A : Around) (outer : List PySem.Env) (s : Shared) (H : Hp) (E : XK) (f c' : Addr), Room kk (A.deeper (lamEnv X (lam k).sc s.heap.objs.size f c')) → PE (lamCx X A outer s H E (lam k).sc f c') (lam k).body (tE X.K X.mg (fun c d _ H => E c d H) (sem k)))
    (hN : Ng[i]? = some a) (hv : Vis sg a) (hd : (a == ("__debug__" : Str)) = false := by decide) (hcd : (a == ("__classdict__" : Str)) = false := by decide) :
    PE ((cxOf CXg X.prog X.w X.K X.mg X.base Ng qg sg g cdg X.A X.stack s H Eg).tr pn xe) (.Call (.Name a p1) [] [] p2) (tE X.K X.mg W (fAct i fun k m => if k < n then sem k ρ m else .bad)) := by
  refine ⟨fun pinsZ sZ σZ HZ Q IZ h => ?_⟩
  obtain ⟨LZ, ρZ, mZ, aZ, h⟩ := h
  unfold fAct at h
  cases q : ρZ[i]? with
  | none => rw [q] at h; exact h.elim
  | some o =>
    cases o with
    | none => rw [q] at h; exact h.elim
    | some d =>
      cases d with
      | clo k =>
        simp only [q] at h
        by_cases hk : k < n
        · rw [if_pos hk] at h
          obtain ⟨v, hs, hv0⟩ := aZ.sl i _ q
          obtain ⟨f, c', t, φ, ev, hf, nf, hc, nc, ht, hp⟩ := (show IsClo LZ HZ k v from hv0)
          subst ev
          rw [lc.hP] at hp
          obtain ⟨pm, ctv, doc, eφ⟩ := hp
          subst eφ
          rw [lc.hq] at hc
          have LB := hL k hk
          have kp : Kp H L0 HZ LZ := hj _ _ aZ.rep.j
          have aL : At X.K σ HZ LZ ρ mZ := ⟨aZ.rep, hlen, fun j d e => let ⟨v, h1, h2⟩ := a0 j d e; ⟨v, h1, kp.is _ h2⟩⟩
          refine wpAny_Call_Name_kw (thn ((pe_var (pos := p1) (i := i) hN hv hd hcd).run pinsZ sZ σZ HZ (fun v H1 => v = .ref f ∧ H1 = HZ) IZ ⟨.ref f, hs, rfl, rfl⟩) fun u s1 ⟨v, H1, I1, r1, q1⟩ => ?_)
          obtain ⟨ev, eH⟩ := q1
          subst ev
          rw [eH] at I1
          obtain rfl : u = Value.ref f := r1
          have of1 : s1.heap.get? f = some (lamObj (X.env.qual ++ "<lambda>") (lam k).ps (lam k).body (lam k).sc (cloFrom X.env.cells (lam k).sc.names []) (match (lam k).d with | none => .none | some _ => .ref t) doc pm c' ctv) := (I1.hok f _ hf).1
          refine PySem.W.callWith_F0 ⟨_, _, _, _, of1⟩ ?_
          have un : Un (frs X.stack) [] H HZ s.heap s1.heap := I1.base
          obtain ⟨⟨oc, vs, tq, hoc, hdc, hvc⟩, _, _⟩ := I1.hok c' _ hc
          obtain ⟨binds, hb1, hb2⟩ := lam_binds (t := t) (q := X.env.qual ++ "<lambda>") (cl := cloFrom X.env.cells (lam k).sc.names []) (doc := doc) (pm := pm) (cv := .ref c') (ctv := ctv) LB I1.hok fun i hi => (ht [.int i] (by rw [lc.hd]; show Option.map _ (lam k).d = _; rw [hi]; rfl)).1
          have rc : codeAny (model X.prog X.w) (X.A.deeper (envOfC qg sg s.heap.objs.size g cdg)) (.call (.ref f) ⟨[], []⟩) (CR (L2.CX X.prog X.w) (envOfC qg sg s.heap.objs.size g cdg :: X.stack) X.prog X.w HZ s1 Q (WE W σZ)) s1 := by
            refine PySem.W.kla_callFunE hr.depth of1 rfl LB.co LB.gen rfl ⟨c', oc, vs, tq, rfl, hoc, hdc, hvc⟩ ?_
            refine hb1 _ _ _ _ ?_
            refine wpAny_newFunctionEnv (fun y hy => (LB.own y hy).1) hb2 (fun h₁ hns hsb => ⟨I1.nolimit.fresh _ hsb, ?_⟩) LB.kind
            show codeAny _ _ (.expr (lam k).body (lamEnv X (lam k).sc s1.heap.objs.size f c')) _ _
            have kp2 : ∀ b o, s1.heap.get? b = some o → h₁.get? b = some o := fun b o e => hsb.extBut b o (Nat.ne_of_lt (Heap.lt_size e)) (Heap.get?_push_of_some _ e)
            have J : Inv (lamCx X (X.A.deeper (envOfC qg sg s.heap.objs.size g cdg)) (envOfC qg sg s.heap.objs.size g cdg :: X.stack) s1 HZ (WE W σZ) (lam k).sc f c') [] σ HZ { s1 with heap := h₁, toks := s1.toks + binds.length } :=
              lam_start3 I LB I1.env0 hr.hd un hns kp2
            refine PySem.W.kla_codeExpr (wpAny_mono ((hsem k hk _ _ s1 HZ (WE W σZ) f c' (hr.deeper _)).run [] _ _ HZ Q J ⟨LZ, ρ, mZ, aL, h⟩) (fun v s' hq => ?_) fun e s' hq => hq)
            obtain ⟨w', H', J', rv, q⟩ := hq
            exact ⟨w', H', J'.os, J'.bare, J'.base, J'.hok, rv, q⟩
          have hx : PassesAt (L2.CX X.prog X.w) ((cxOf CXg X.prog X.w X.K X.mg X.base Ng qg sg g cdg X.A X.stack s H Eg).tr pn xe) σZ (WE W σZ) := passAt tk σZ
          refine wpAny_call (codeAny_mono rc fun r s' hq => ?_)
          cases r with
          | error e => exact hx pinsZ HZ s1 e s' I1 hq
          | ok fl =>
            cases fl with
            | ret u => exact I1.after hq
            | next => exact False.elim hq
            | brk => exact False.elim hq
            | cont => exact False.elim hq
        · rw [if_neg hk] at h
          exact h.elim
      | _ => simp only [q] at h; exact h.elim
end
end
end Mn
end
section
set_option Elab.async false
set_option Elab.async false
set_option linter.all false
set_option maxRecDepth 100000
set_option maxHeartbeats 4000000
namespace Mn
open PySem PySem.Spec PyProof.Rows L2 LamX
/-! ### the call of a def that calls what it gets -/
@[reducible] def withJ (c : Clo) (H0 : Hp) (L0 : List Addr) : Clo where
  P := c.P
  dv := c.dv
  q := c.q
  T := c.T
  J := fun H' L' => c.J H' L' ∧ KpT c.T H0 L0 H' L'
  jm := fun H L H' L' k j => ⟨c.jm _ _ _ _ k j.1, @Kp.trans c _ _ _ _ _ _ j.2 k⟩
theorem KpT.refl' {T : List (Addr × Str)} (H : Hp) (L : List Addr) : KpT T H L H L := ⟨⟨[], by simp⟩, fun _ _ _ h _ => h, fun _ ps h => ⟨ps, h⟩, fun _ h n => absurd h n, id⟩
section
variable {c : Clo} {H0 : Hp} {L0 : List Addr} {K : PySem.W.Frag}
mutual
theorem is_withJ {L : List Addr} {H : Hp} : ∀ (d : D) (v : V), @Is (withJ c H0 L0) K L H d v ↔ @Is c K L H d v
  | .non, v => Iff.rfl
  | .bl _, v => Iff.rfl
  | .int _, v => Iff.rfl
  | .str _, v => Iff.rfl
  | .tup ds, v => by
    constructor
    · intro h
      obtain ⟨a, vs, e, f, g⟩ := (show ∃ a vs, v = .ref a ∧ FzT K L H a vs ∧ @IsL (withJ c H0 L0) K L H ds vs by simpa only [Is] using h)
      show @Is c K L H (.tup ds) v
      simp only [Is]
      exact ⟨a, vs, e, f, (isL_withJ ds vs).mp g⟩
    · intro h
      obtain ⟨a, vs, e, f, g⟩ := (show ∃ a vs, v = .ref a ∧ FzT K L H a vs ∧ @IsL c K L H ds vs by simpa only [Is] using h)
      show @Is (withJ c H0 L0) K L H (.tup ds) v
      simp only [Is]
      exact ⟨a, vs, e, f, (isL_withJ ds vs).mpr g⟩
  | .rol ds, v => by
    constructor
    · intro h
      obtain ⟨a, vs, e, f, g⟩ := (show ∃ a vs, v = .ref a ∧ FzL K L H a vs ∧ @IsL (withJ c H0 L0) K L H ds vs by simpa only [Is] using h)
      show @Is c K L H (.rol ds) v
      simp only [Is]
      exact ⟨a, vs, e, f, (isL_withJ ds vs).mp g⟩
    · intro h
      obtain ⟨a, vs, e, f, g⟩ := (show ∃ a vs, v = .ref a ∧ FzL K L H a vs ∧ @IsL c K L H ds vs by simpa only [Is] using h)
      show @Is (withJ c H0 L0) K L H (.rol ds) v
      simp only [Is]
      exact ⟨a, vs, e, f, (isL_withJ ds vs).mpr g⟩
  | .ref _, v => by simp only [Is]
  | .clo _, v => Iff.rfl
  | .raw _, v => Iff.rfl
theorem isL_withJ {L : List Addr} {H : Hp} : ∀ (ds : List D) (vs : List V), @IsL (withJ c H0 L0) K L H ds vs ↔ @IsL c K L H ds vs
  | [], vs => Iff.rfl
  | d :: ds, vs => by
    constructor
    · intro h
      obtain ⟨v, r, e, f, g⟩ := (show ∃ v r, vs = v :: r ∧ @Is (withJ c H0 L0) K L H d v ∧ @IsL (withJ c H0 L0) K L H ds r by simpa only [IsL] using h)
      show @IsL c K L H (d :: ds) vs
      simp only [IsL]
      exact ⟨v, r, e, (is_withJ d v).mp f, (isL_withJ ds r).mp g⟩
    · intro h
      obtain ⟨v, r, e, f, g⟩ := (show ∃ v r, vs = v :: r ∧ @Is c K L H d v ∧ @IsL c K L H ds r by simpa only [IsL] using h)
      show @IsL (withJ c H0 L0) K L H (d :: ds) vs
      simp only [IsL]
      exact ⟨v, r, e, (is_withJ d v).mpr f, (isL_withJ ds r).mpr g⟩
end
theorem ois_withJ {L : List Addr} {H : Hp} {a : Addr} : ∀ (o : Obj), @OIs (withJ c H0 L0) K L H a o ↔ @OIs c K L H a o
  | .lst ds => ⟨fun ⟨vs, h, i⟩ => ⟨vs, h, (isL_withJ ds vs).mp i⟩, fun ⟨vs, h, i⟩ => ⟨vs, h, (isL_withJ ds vs).mpr i⟩⟩
  | .dic ks ds => ⟨fun ⟨vs, h, e, i⟩ => ⟨vs, h, e, (isL_withJ ds _).mp i⟩, fun ⟨vs, h, e, i⟩ => ⟨vs, h, e, (isL_withJ ds _).mpr i⟩⟩
theorem rep_ofJ {H : Hp} {L : List Addr} {m : Mem} (r : @Rep (withJ c H0 L0) K H L m) : @Rep c K H L m :=
  @Rep.mk c _ _ _ _ (@Rep.len (withJ c H0 L0) _ _ _ _ r) (@Rep.nd (withJ c H0 L0) _ _ _ _ r) (fun n a o e1 e2 => (ois_withJ o).mp (@Rep.ob (withJ c H0 L0) _ _ _ _ r n a o e1 e2)) (@Rep.tab (withJ c H0 L0) _ _ _ _ r) (@Rep.j (withJ c H0 L0) _ _ _ _ r).1
theorem rep_toJ {H : Hp} {L : List Addr} {m : Mem} (r : @Rep c K H L m) (k : KpT c.T H0 L0 H L) : @Rep (withJ c H0 L0) K H L m :=
  @Rep.mk (withJ c H0 L0) _ _ _ _ r.len r.nd (fun n a o e1 e2 => (ois_withJ o).mpr (r.ob n a o e1 e2)) r.tab ⟨r.j, k⟩
theorem exc_ofJ {mg : Str → Option Value} {L : List Addr} {H : Hp} {e : Exc} {cls : Value} {dd : Option Addr} (h : @ExcIs (withJ c H0 L0) K mg L H e cls dd) : @ExcIs c K mg L H e cls dd := by
  obtain ⟨C, g, e1, h⟩ := h
  refine ⟨C, g, e1, ?_⟩
  rcases h with h | ⟨a, fs, h1, h2, h3, h4, h5, h6⟩
  · exact .inl h
  · exact .inr ⟨a, fs, h1, h2, h3, h4, h5, (isL_withJ _ _).mp h6⟩
theorem fin_toJ {mg : Str → Option Value} {W : XK} {H : Hp} {L : List Addr} {r : Res D} {Q : VK} (h : @Fin c D V K mg (@relV c K) W H L r Q) : @Fin (withJ c H0 L0) D V K mg (@relV (withJ c H0 L0) K) W H L r Q := by
  cases r with
  | ok a m => exact fun b H' L' k r i => h b H' L' k (rep_ofJ r) ((is_withJ a b).mp i)
  | ex e m => exact fun cls dd H' L' k r x => h cls dd H' L' k (rep_ofJ r) (exc_ofJ x)
  | bad => exact h
/-- a def that calls its first argument: A, what comes of that -/
structure HofOk (P : Program) (w : World) (K : PySem.W.Frag) (mg : Str → Option Value) (base : Heap) (k : Nat) (x a : Str) (n : Nat) (Fw : (Nat → Mem → Res D) → List D → Mem → Res D) : Prop where
  ex : ∃ (f : Addr) (fd : FuncData) (st : Stmt) (ps N : List Str) (B : (Nat → Mem → Res D) → Env → Mem → Out), ps.length = n ∧ Fun K x x st f fd ∧ L2.Binds K fd ps [] ∧ mg x = some (.ref f) ∧ FnScope N ps (defScope st) ∧ N[0]? = some a ∧ Vis (defScope st) a ∧ (Fw = fun A => fnD N (B A)) ∧
    ∀ (i : Clo) (A : Nat → Mem → Res D) (cdv : Value) (Ar : Around) (outer : List PySem.Env) (s : Shared) (H : Hp) (E : XK), Room k (Ar.deeper (envOfC x (defScope st) s.heap.objs.size f cdv)) →
      (∀ (W : WX) (pn : List (Addr × PySem.Obj)) (xe : Value → Shared → Prop) (p1 p2 : Pos), Takes ((cxOf (L2.CX P w) P w K mg base N x (defScope st) f cdv Ar outer s H E).tr pn xe) W →
        PE ((cxOf (L2.CX P w) P w K mg base N x (defScope st) f cdv Ar outer s H E).tr pn xe) (.Call (.Name a p1) [] [] p2) (tE K mg W (fAct 0 A))) →
      PSs (cxOf (L2.CX P w) P w K mg base N x (defScope st) f cdv Ar outer s H E) (defBody st) (tS K mg (fun c d _ H => E c d H) (B A))
def fHof (Fw : (Nat → Mem → Res D) → List D → Mem → Res D) (n : Nat) (sem : Nat → Env → Mem → Res D) (fs : Env → Mem → Res (List D)) : Env → Mem → Res D := fun ρ m => (fs ρ m).bind (Fw fun k m => if k < n then sem k ρ m else .bad)
end
section
variable [i : Clo] {X : Cx} {W : WX} {lam : Nat → Lam} {P0 : Addr} {x a : Str} {p pos : Pos} {e : Expr} {es : List Expr} {fs : Env → Mem → Res (List D)}
theorem m_hof {k na n : Nat} {Fw : (Nat → Mem → Res D) → List D → Mem → Res D} {sem : Nat → Env → Mem → Res D} (hf : HofOk X.prog X.w X.K X.mg X.base (k + 1) x a na Fw) (hr : Room (k + 2) X.A) (tk : Takes X W)
    (lc : LawClo X lam P0) (hL : ∀ j, j < n → LamB X.env.scope X.N (lam j))
    (hsem : ∀ (c : Clo) (j : Nat), j < n → ∀ (A : Around) (outer : List PySem.Env) (s : Shared) (H : Hp) (E : XK) (f c' : Addr), Room k (A.deeper (lamEnv X (lam j).sc s.heap.objs.size f c')) → PE (lamCx X A outer s H E (lam j).sc f c') (lam j).body (tE X.K X.mg (fun c d _ H => E c d H) (sem j)))
    (ha : PA X (e :: es) (tA X.K X.mg W fs)) (hn : ∀ ρ m ds m', fs ρ m = .ok ds m' → ds.length = na) (hd : (a == ("__debug__" : Str)) = false := by decide) (hcd : (a == ("__classdict__" : Str)) = false := by decide) (hg : Gl X x := by rfl)
    (hdb : (x == ("__debug__" : Str)) = false := by decide) (he : starEach (e :: es) X.env = (false, eval e X.env) :: starEach es X.env := by rfl) (hpl : (backTo pos (starEach es X.env)).any (·.1) = false := by rfl) :
    PE X (.Call (.Name x p) (e :: es) [] pos) (tE X.K X.mg W (fHof Fw n sem fs)) := by
  obtain ⟨f, fd, st, ps, N, B, hl, F, hb, hm, S, hN, hv, eF, hB⟩ := hf.ex
  refine ⟨fun pins s σ H Q I h => ?_⟩
  obtain ⟨L, ρ, m, a0, h⟩ := h
  have hn' := hn ρ m
  refine wpAny_Call_Name_kw (ld_glob I hg hm ?_ hdb)
  have h' : Fin X.K X.mg (relA X.K) (fun c d H' => W c d σ H') H L (fs ρ m) fun vs H' => vs.length = na ∧ ∃ ds m1 L1, Kp H L H' L1 ∧ Rep X.K H' L1 m1 ∧ IsL X.K L1 H' ds vs ∧ Fin X.K X.mg (relV X.K) (fun c d H' => W c d σ H') H' L1 (Fw (fun k m => if k < n then sem k ρ m else .bad) ds m1) Q := by
    unfold fHof at h
    revert h
    cases hq : fs ρ m with
    | bad => exact fun h => h.elim
    | ex e m' => exact fun h => h
    | ok ds m' =>
      intro h vs H1 L1 k1 r1 i1
      have i1 : IsL X.K L1 H1 ds vs := i1
      exact ⟨by rw [i1.length]; exact hn' ds m' hq, ds, m', L1, k1, r1, i1, Fin.mono h k1⟩
  refine PySem.W.callWith_K (h₀ := X.base) I.ok.mod.kin F.kp (thn (ha.run pos pins s σ H _ I ⟨L, ρ, m, a0, h'⟩) fun us s1 ⟨vs, H1, I1, r, q⟩ => ⟨I1.kIn, ?_⟩) he hpl
  obtain ⟨hlv, ds, m1, L1, k1, r1, i1, h1⟩ := q
  have a1 : At X.K σ H1 L1 ρ m1 := a0.mono k1 r1
  obtain ⟨oc, od, kV, doc, pm, an, cdv, ct, osl, rfl, lk, hcode⟩ := F.ex
  have hvl : vs.length = ps.length := hlv.trans hl.symm
  have rc : codeAny (model X.prog X.w) X.A (.call (.ref f) ⟨us, []⟩) (CR (L2.CX X.prog X.w) X.stack X.prog X.w H1 s1 Q (WE W σ)) s1 := by
    have hus : us.length = ps.length := by rw [← r.length]; exact hvl
    have hbt := hb s1 us I1.kIn (by rw [List.append_nil]; exact hus)
    rw [List.append_nil] at hbt
    refine run_ofS (N := N) (ps := ps) (us := us) (vs := vs) lk hcode S hr I1.env0 hbt r hvl fun hr' => ?_
    have lc2 : @LawClo (withJ i H1 L1) X lam P0 := @LawClo.mk (withJ i H1 L1) _ _ _ lc.hq lc.hT lc.hP lc.hd
    have act := fun (W' : WX) (pn : List (Addr × PySem.Obj)) (xe : Value → Shared → Prop) (p1 p2 : Pos) (tk' : Takes ((cxOf (L2.CX X.prog X.w) X.prog X.w X.K X.mg X.base N x (defScope st) f cdv X.A X.stack s1 H1 (WE W σ)).tr pn xe) W') =>
      @m_act (withJ i H1 L1) X W' lam P0 pins σ H1 s1 (L2.CX X.prog X.w) (WE W σ) N x (defScope st) f cdv k 0 a pn xe ρ L1 p1 p2 n sem I1 lc2 (fun H' L' j => j.2) a1.len
        (fun i d e => let ⟨v, h1, h2⟩ := a1.sl i d e; ⟨v, h1, (is_withJ d v).mpr h2⟩) hL tk' hr' (fun j hj => @hsem (withJ i H1 L1) j hj) hN hv hd hcd
    have hp := hB (withJ i H1 L1) (fun k m => if k < n then sem k ρ m else .bad) cdv X.A X.stack s1 H1 (WE W σ) hr' act
    refine ⟨_, hp, L1, startE N ds, m1, @at_start (withJ i H1 L1) _ _ _ _ _ _ _ (rep_toJ r1 (KpT.refl' _ _)) ((isL_withJ ds vs).mpr i1), ?_⟩
    have h2 := fin_toJ (H0 := H1) (L0 := L1) h1
    rw [eF] at h2
    unfold fnD at h2
    dsimp only at h2
    revert h2
    cases q : B (fun k m => if k < n then sem k ρ m else .bad) (startE N ds) m1 with
    | nx ρ' m' => exact fun h2 σ' H' L' k' a' => h2 .non H' L' k' (@At.rep (withJ i H1 L1) _ _ _ _ _ _ a') rfl
    | rt d m' => exact fun h2 => h2
    | ex e ρ' m' => exact fun h2 c d σ' H' L' k' a' x => h2 c d H' L' k' (@At.rep (withJ i H1 L1) _ _ _ _ _ _ a') x
    | bk ρ' m' => exact fun h2 => h2.elim
    | ct ρ' m' => exact fun h2 => h2.elim
    | bad => exact fun h2 => h2.elim
  have hx : PassesAt (L2.CX X.prog X.w) X σ (WE W σ) := passAt tk σ
  refine wpAny_call (codeAny_mono rc fun r s' hq => ?_)
  cases r with
  | error e => exact hx pins H1 s1 e s' I1 hq
  | ok fl =>
    cases fl with
    | ret u => exact I1.after hq
    | next => exact False.elim hq
    | brk => exact False.elim hq
    | cont => exact False.elim hq
end
theorem tk_lam {X : Cx} {A : Around} {outer : List PySem.Env} {s : Shared} {H : Hp} {E : XK} {sc : Scope} {f c' : Addr} : Takes (lamCx X A outer s H E sc f c') (fun c d _ H => E c d H) := takes_of rfl rfl rfl rfl
/-! ### an empty dict -/
section
variable [Clo] {X : Cx} {W : WX} {pos : Pos}
def fDic0 : Env → Mem → Res D := fun _ m => .ok (.ref m.length) (m ++ [.dic [] []])
theorem m_dic0 : PE X (.Dict [] [] pos) (tE X.K X.mg W fDic0) := by
  refine PE.of pe_dnewK fun σ H Q h => ?_
  obtain ⟨L, ρ, m, a, h⟩ := h
  intro p hp
  have r := a.rep
  refine h _ _ (L ++ [p]) (Kp.newH hp) (r.newH hp ⟨[], upd_same, rfl, rfl⟩) ?_
  simp only [relV, Is]
  exact ⟨p, by rw [← r.len, List.getElem?_concat_length], rfl⟩
end
/-! ### the law's own instance -/
@[reducible] def cloOf (q : Str) (cells : List (Str × Addr)) (lam : Nat → Lam) (P0 : Addr) : Clo where
  P := lamP q cells lam
  dv := fun k => (lam k).d.map fun i => [V.int i]
  q := q
  T := [(P0, q)]
  J := fun _ _ => True
  jm := fun _ _ _ _ _ _ => trivial
/-! ### paths -/
def kid : Expr → Nat → Expr
  | .BoolOp _ vs _, i => vs.getD i (.Constant .none 0 ⟨0, 0, 0, 0⟩)
  | .BinOp l _ _ _, 0 => l
  | .BinOp _ _ r _, _ => r
  | .UnaryOp _ e _, _ => e
  | .IfExp t _ _ _, 0 => t
  | .IfExp _ b _ _, 1 => b
  | .IfExp _ _ o _, _ => o
  | .Compare l _ _ _, 0 => l
  | .Compare _ _ cs _, i + 1 => cs.getD i (.Constant .none 0 ⟨0, 0, 0, 0⟩)
  | .Call f _ _ _, 0 => f
  | .Call _ as _ _, i + 1 => as.getD i (.Constant .none 0 ⟨0, 0, 0, 0⟩)
  | .List es _, i => es.getD i (.Constant .none 0 ⟨0, 0, 0, 0⟩)
  | .Tuple es _ _, i => es.getD i (.Constant .none 0 ⟨0, 0, 0, 0⟩)
  | .Subscript a _ _, 0 => a
  | .Subscript _ b _, _ => b
  | e, _ => e
def exprOf : Stmt → Expr
  | .Assign _ e _ => e
  | .Return (some e) _ => e
  | .Expr e _ => e
  | .If c _ _ _ => c
  | .AugAssign _ _ e _ => e
  | _ => .Constant .none 0 ⟨0, 0, 0, 0⟩
def stmtAt (b : List Stmt) (i : Nat) : Stmt := b.getD i (.Pass ⟨0, 0, 0, 0⟩)
end Mn
end
section
set_option Elab.async false
set_option Elab.async false
set_option linter.all false
set_option maxRecDepth 100000
set_option maxHeartbeats 4000000
namespace Mn
open PySem PySem.Spec PyProof.Rows L2 LamX
/-! ### facts of the top -/
def xPair (K : PySem.W.Frag) (p : Str × Str × Bool) : Bool :=
  (He.Fa.glo p.1).ok K && ((He.Fa.glo p.2.1).ok K && (He.eqO (PySem.W.findIn K (.ref (He.ga K p.1)) "__getattribute__") (some (some (.builtin "BaseException.__getattribute__"))) &&
  (He.eqO (PySem.W.findIn K (.ref (He.ga K p.1)) "__getattr__") (some none) && (decide (PySem.W.subIn K (.ref (He.ga K p.1)) (.type "BaseException") = some true) && (PySem.W.hasDictIn K (He.ga K p.1) &&
  (He.eqO (PySem.W.findIn K (.ref (He.ga K p.1)) "__class__") (some (some (.builtin "object.__class__"))) && (He.eqO (PySem.W.specialIn K (.builtin "object.__class__") "__get__") (some (some (.builtin "getset_descriptor.__get__"))) &&
  (decide (PySem.W.takesIn K (.builtin "object.__class__") = some true) && (decide (PySem.W.mroIn K (He.ga K p.1) (.type "object") = some true) && (PySem.W.keepIn K (.ref (He.ga K p.2.1)) &&
  (decide (PySem.W.exmOne K (.ref (He.ga K p.1)) (.ref (He.ga K p.2.1)) = some p.2.2) && decide (PySem.W.kitOne K (.ref (He.ga K p.1)) (.ref (He.ga K p.2.1)) = some p.2.2))))))))))))
def exK (tab : ETab) (K : PySem.W.Frag) : Bool := tab.all (xPair K)
section
variable {K : PySem.W.Frag} {h : Heap} {mg : Str → Option Value}
theorem tabOk_of {tab : ETab} (X : K.In h) (G : h.Ns mainGlobals mg) (e : exK tab K = true) : TabOk K mg tab := fun p hp => by
  have z := List.all_eq_true.mp e p hp
  unfold xPair at z
  obtain ⟨h1, z⟩ := He.ba z
  obtain ⟨h2, z⟩ := He.ba z
  obtain ⟨h3, z⟩ := He.ba z
  obtain ⟨h4, z⟩ := He.ba z
  obtain ⟨h5, z⟩ := He.ba z
  obtain ⟨h6, z⟩ := He.ba z
  obtain ⟨h7, z⟩ := He.ba z
  obtain ⟨h8, z⟩ := He.ba z
  obtain ⟨h9, z⟩ := He.ba z
  obtain ⟨h10, z⟩ := He.ba z
  obtain ⟨h11, z⟩ := He.ba z
  obtain ⟨h12, h13⟩ := He.ba z
  exact ⟨_, _, He.glo_ok X G h1, He.glo_ok X G h2, ⟨He.eqO_ok h3, He.eqO_ok h4, of_decide_eq_true h5, h6, He.eqO_ok h7, He.eqO_ok h8, of_decide_eq_true h9, of_decide_eq_true h10⟩, h11, of_decide_eq_true h12, of_decide_eq_true h13⟩
theorem errOk_of {x : Str} (X : K.In h) (G : h.Ns mainGlobals mg) (g : (He.Fa.glo x).ok K = true) (e : (He.Fa.exc x).ok K = true) : ErrOk K mg x := by
  obtain ⟨h1, h2, h3, h4⟩ := He.exc_ok e
  exact ⟨_, He.glo_ok X G g, h1, h2, h3, h4⟩
theorem glo_of {x : Str} (X : K.In h) (G : h.Ns mainGlobals mg) (g : (He.Fa.glo x).ok K = true) : ∃ E : Addr, mg x = some (.ref E) := ⟨_, He.glo_ok X G g⟩
/-- a plain def of the top -/
def dPlain (x : Str) (st : Stmt) : He.DefD := ⟨(x, none), x, x, defArgs st, defBody st, defScope st, [], []⟩
theorem funAt_of {fa : List He.Fa} {fn : List He.DefD} {x : Str} {st : Stmt} {ps : List Str} (X : K.In h) (G : h.Ns mainGlobals mg) (c : He.SaysD fa fn K) (hd : dPlain x st ∈ fn) (hg : He.Fa.glo x ∈ fa)
    (hb : ∀ (kV doc pm : Value) (an : Option Addr) (cdv ct : Value) (us : List Value), us.length = ps.length → bindArgs (PySem.W.fnOf x x (defArgs st) (defBody st) (defScope st) .none kV doc pm an cdv ct) ⟨us, []⟩ = pure (ps.zip us)) : FunAt K mg x st ps := by
  obtain ⟨fd, F⟩ := c.defs hd
  obtain ⟨oc, od, dV, kV, doc, pm, an, cdv, ct, osl, rfl, lk, hcd, hv, _⟩ := F.ex
  have e : dV = .none := by
    rcases hv with ⟨_, e⟩ | ⟨n, _⟩
    · exact e
    · exact absurd rfl n
  subst e
  have F2 : Fun K x x st (He.fAd K (x, none)) (PySem.W.fnOf x x (defArgs st) (defBody st) (defScope st) .none kV doc pm an cdv ct) := ⟨⟨oc, od, kV, doc, pm, an, cdv, ct, osl, rfl, lk, hcd⟩, F.kp⟩
  exact ⟨_, _, F2, F2.binds hb, He.glo_ok X G (c.facts hg)⟩
end
/-! ### the law's end -/
def spLaw (K : PySem.W.Frag) (P0 : Addr) (n : Nat) : Sp := fun vs H Q _ => ∃ (a : Addr) (ns : List Int), vs = [.ref a] ∧ ns.length ≤ n ∧ SqL K H a (ns.map V.int) ∧ H P0 = some (.tbl #[]) ∧ ∀ H', Q (.bl true) H'
theorem isl_ints [Clo] {K : PySem.W.Frag} {L : List Addr} {H : Hp} : ∀ ns : List Int, IsL K L H (ns.map D.int) (ns.map V.int)
  | [] => rfl
  | z :: r => by
    simp only [List.map_cons, IsL]
    exact ⟨.int z, r.map V.int, rfl, rfl, isl_ints r⟩
theorem lawAt {l : PySem.W.OpenLaw} {w : World} {K : PySem.W.Frag} {h : Heap} {mg : Str → Option Value} {fA : Addr} {fa : List He.Fa} {fn : List He.DefD} {ts : List He.Tab} {tf : List He.Defn} {ex : PySem.W.Frag → Bool} {st : Stmt} {N : List Str} {B : Env → Mem → Out} {lam : Nat → Lam} {kl n : Nat}
    (X : K.In h) (G : h.Ns mainGlobals mg) (hmg : mg ("law" : Str) = some (.ref fA)) (S : He.SaysX fa fn ts tf ex w h K) (c : He.SaysD fa fn K) (htf : (("law", none) : He.Defn) ∈ tf) (hd : dPlain "law" st ∈ fn) (hg : He.Fa.glo "law" ∈ fa)
    (hb : ∀ (kV doc pm : Value) (an : Option Addr) (cdv ct : Value) (us : List Value), us.length = (["script"] : List Str).length → bindArgs (PySem.W.fnOf "law" "law" (defArgs st) (defBody st) (defScope st) .none kV doc pm an cdv ct) ⟨us, []⟩ = pure ((["script"] : List Str).zip us))
    (sc : FnScope N ["script"] (defScope st))
    (body : ∀ (i : Clo) (base : Heap) (f : Addr) (cdv : Value) (A : Around) (outer : List PySem.Env) (s : Shared) (H : Hp) (E : XK) (P0 c : Addr), Room kl (A.deeper (envOfC "law" (defScope st) s.heap.objs.size f cdv)) →
      LawClo (cxOf (L2.CX l.prog w) l.prog w K mg base N "law" (defScope st) f cdv A outer s H E) lam P0 → TabB base mg c P0 → cdv = .ref c →
      PSs (cxOf (L2.CX l.prog w) l.prog w K mg base N "law" (defScope st) f cdv A outer s H E) (defBody st) (tS K mg (fun c d _ H => E c d H) B))
    (math : ∀ ns : List Int, ns.length ≤ n → ∃ m, fnD N B [.rol (ns.map D.int)] [] = .ok (.bl true) m) :
    LawAtS l w K (L2.CX l.prog w) (kl + 1) n "script" mg fA h := by
  obtain ⟨fd, F⟩ := c.defs hd
  obtain ⟨oc, od, dV, kV, doc, pm, an, cdv, ct, osl, rfl, lk, hcd, hv, _⟩ := F.ex
  have e : dV = .none := by
    rcases hv with ⟨_, e⟩ | ⟨n, _⟩
    · exact e
    · exact absurd rfl n
  subst e
  have ef : fA = He.fAd K ("law", none) := by
    have z := He.glo_ok X G (c.facts hg)
    rw [hmg] at z
    cases z
    rfl
  subst ef
  obtain ⟨cc, ec⟩ := He.codeIn_ref hcd
  subst ec
  have eco : He.codeOf K ("law", none) = cc := He.codeOf_eq lk rfl
  have lk2 : K.lookup (He.fAd K ("law", none)) = some ⟨oc, od, .func (PySem.W.fnOf "law" "law" (defArgs st) (defBody st) (defScope st) .none kV doc pm an (.ref cc) ct), osl⟩ := lk
  have hcd2 : PySem.W.codeIn K (.ref cc) "law" = true := hcd
  refine ⟨PySem.W.fnOf "law" "law" (defArgs st) (defBody st) (defScope st) .none kV doc pm an (.ref cc) ct, [He.cT K ("law", none)], spLaw K (He.cT K ("law", none)).2 n, fun p hp => ?_, fun p hp => ?_, fun p hp => ?_, fun s u => ?_, fun H a ns hl _ hT hS => ?_, fun base hK hN hTB => ?_⟩
  · rw [List.mem_singleton.mp hp]; exact S.empty _ htf
  · rw [List.mem_singleton.mp hp]; exact S.out _ htf
  · rw [List.mem_singleton.mp hp]; exact PySem.W.codeHd_of_K X (S.hd _ htf)
  · exact .of_eq (hb _ _ _ _ _ _ [u] rfl)
  · exact ⟨a, ns, rfl, hl, hS, hT _ (List.mem_singleton.mpr rfl), fun _ => rfl⟩
  · have TB := hTB _ (List.mem_singleton.mpr rfl)
    have TB1 : TabB base mg cc (He.cT K ("law", none)).2 := by
      rw [← eco]
      exact TB
    refine fn_of lk2 hcd2 sc (fun vs H Q E hsp => ?_) fun A outer s H vs Q E hr hsp => ?_
    · obtain ⟨a, ns, rfl, _⟩ := hsp
      rfl
    · obtain ⟨a, ns, rfl, hl, hS, hT, hQ⟩ := hsp
      obtain ⟨m, hm⟩ := math ns hl
      let X0 : Cx := cxOf (L2.CX l.prog w) l.prog w K mg base N "law" (defScope st) (He.fAd K ("law", none)) (.ref cc) A outer s H E
      letI i : Clo := cloOf (X0.env.qual ++ "<lambda>") X0.env.cells lam (He.cT K ("law", none)).2
      have lc : LawClo X0 lam (He.cT K ("law", none)).2 := ⟨rfl, rfl, rfl, rfl⟩
      have rep : Rep K H [] [] := ⟨rfl, List.nodup_nil, fun n a o e => by simp at e, fun p hp => by rw [List.mem_singleton.mp hp]; exact TabS.nil hT, trivial⟩
      have hz : FzL K [] H a (ns.map V.int) := by
        rcases hS with z | z
        · exact .inl ⟨z, by simp⟩
        · exact .inr z
      have iv : IsL K [] H [.rol (ns.map D.int)] [.ref a] := by
        simp only [IsL, Is]
        exact ⟨.ref a, [], rfl, ⟨a, _, rfl, hz, isl_ints ns⟩, rfl⟩
      refine ⟨_, body i base _ _ A outer s H E _ cc hr lc TB1 rfl, [], startE N [.rol (ns.map D.int)], [], at_start rep iv, ?_⟩
      unfold fnD at hm
      cases q : B (startE N [.rol (ns.map D.int)]) [] with
      | rt d m' =>
        rw [q] at hm
        cases hm
        intro v H' L' k r iv
        have ev : v = .bl true := iv
        subst ev
        exact hQ H'
      | nx ρ' m' => rw [q] at hm; cases hm
      | ex e ρ' m' => rw [q] at hm; cases hm
      | bk ρ' m' => rw [q] at hm; cases hm
      | ct ρ' m' => rw [q] at hm; cases hm
      | bad => rw [q] at hm; cases hm
theorem cx_none {P : Program} {w : World} {H : Hp} {s : Shared} {e : Value} {s' : Shared} (h : L2.CX P w [] H s (fun _ _ _ => False) e s') : False := by
  obtain ⟨_, _, _, _, _, _, _, _, _, _, _, _, z⟩ := h
  exact z
end Mn
end
section
set_option Elab.async false
set_option Elab.async false
set_option linter.all false
set_option maxRecDepth 100000
set_option maxHeartbeats 4000000
open PySem L2
namespace Mn
section
variable {ρ ρ1 ρ2 : Env} {m m1 m2 m3 m4 : Mem} {d x y z : D} {i n : Nat} {e : Exc} {o : Out} {r : Res D} {rb : Res Bool} {f fa fb fc fo fe fi : Env → Mem → Res D} {g ga gb : Env → Mem → Res Bool} {fs : Env → Mem → Res (List D)} {ds : List D} {S T U : Env → Mem → Out} {b : Bool}
  {gg gg' : D → D → Mem → Res D} {F : List D → Mem → Res D} {fl fh : Env → Mem → Res (Option Int)} {lo hi : Option Int} {N : List Str}
theorem ev_c : fC d ρ m = .ok d m := rfl
theorem ev_var (h : ρ[i]? = some (some d)) : fVar i ρ m = .ok d m := by unfold fVar; rw [h]
theorem ev_2 (h1 : fa ρ m = .ok x m1) (h2 : fb ρ m1 = .ok y m2) (h3 : gg x y m2 = r) : f2 gg fa fb ρ m = r := by unfold f2; rw [h1]; simp only [Res.bind]; rw [h2]; exact h3
theorem ev_nil : aNil ρ m = .ok [] m := rfl
theorem ev_cons (h1 : f ρ m = .ok x m1) (h2 : fs ρ m1 = .ok ds m2) : aCons f fs ρ m = .ok (x :: ds) m2 := by unfold aCons; rw [h1]; simp only [Res.bind]; rw [h2]
theorem ev_call (h1 : fs ρ m = .ok ds m1) (h2 : F ds m1 = r) : fCall F fs ρ m = r := by unfold fCall; rw [h1]; exact h2
theorem ev_bl (h : f ρ m = .ok (.bl b) m1) : fBl f ρ m = .ok b m1 := by unfold fBl; rw [h]; rfl
theorem ev_tru (h : f ρ m = .ok d m1) (h2 : truD d m1 = rb) : fTru f ρ m = rb := by unfold fTru; rw [h]; exact h2
theorem ev_not (h : g ρ m = .ok b m1) : fNot g ρ m = .ok (!b) m1 := by unfold fNot; rw [h]; rfl
theorem ev_andT (h1 : g ρ m = .ok true m1) (h2 : gb ρ m1 = rb) : fAnd g gb ρ m = rb := by unfold fAnd; rw [h1]; exact h2
theorem ev_andF (h1 : g ρ m = .ok false m1) : fAnd g gb ρ m = .ok false m1 := by unfold fAnd; rw [h1]; rfl
theorem ev_orT (h1 : g ρ m = .ok true m1) : fOr g gb ρ m = .ok true m1 := by unfold fOr; rw [h1]; rfl
theorem ev_orF (h1 : g ρ m = .ok false m1) (h2 : gb ρ m1 = rb) : fOr g gb ρ m = rb := by unfold fOr; rw [h1]; exact h2
theorem ev_vandT (h1 : fa ρ m = .ok x m1) (h2 : truD x m1 = .ok true m1) (h3 : fb ρ m1 = r) : vAnd fa fb ρ m = r := by unfold vAnd; rw [h1]; simp only [Res.bind]; rw [h2]; exact h3
theorem ev_vandF (h1 : fa ρ m = .ok x m1) (h2 : truD x m1 = .ok false m1) : vAnd fa fb ρ m = .ok x m1 := by unfold vAnd; rw [h1]; simp only [Res.bind]; rw [h2]
theorem ev_vorT (h1 : fa ρ m = .ok x m1) (h2 : truD x m1 = .ok true m1) : vOr fa fb ρ m = .ok x m1 := by unfold vOr; rw [h1]; simp only [Res.bind]; rw [h2]
theorem ev_vorF (h1 : fa ρ m = .ok x m1) (h2 : truD x m1 = .ok false m1) (h3 : fb ρ m1 = r) : vOr fa fb ρ m = r := by unfold vOr; rw [h1]; simp only [Res.bind]; rw [h2]; exact h3
theorem ev_ifxT (h1 : g ρ m = .ok true m1) (h2 : fa ρ m1 = r) : fIf g fa fb ρ m = r := by unfold fIf; rw [h1]; exact h2
theorem ev_ifxF (h1 : g ρ m = .ok false m1) (h2 : fb ρ m1 = r) : fIf g fa fb ρ m = r := by unfold fIf; rw [h1]; exact h2
theorem ev_m1 {M : Str → List D → Mem → Res D} {s : Str} (h1 : fo ρ m = .ok (.str s) m1) (h2 : fe ρ m1 = .ok x m2) (h3 : M s [x] m2 = r) : fM1 M fo fe ρ m = r := by
  unfold fM1
  rw [h1]
  simp only [Res.bind]
  rw [h2]
  exact h3
theorem ev_isi {Ts : List String} (h1 : f ρ m = .ok x m1) (h2 : gIsi Ts x m1 = r) : fIsi Ts f ρ m = r := by unfold fIsi; rw [h1]; exact h2
theorem ev_tup (h1 : fs ρ m = .ok ds m1) (h2 : ds.length ≤ 16777216) : fTup fs ρ m = .ok (.tup ds) m1 := by unfold fTup; rw [h1]; show tupD ds m1 = _; unfold tupD; rw [if_pos h2]
theorem ev_lst (h1 : fs ρ m = .ok ds m1) (h2 : ds.length ≤ 16777216) : fLst fs ρ m = .ok (.ref m1.length) (m1 ++ [.lst ds]) := by unfold fLst; rw [h1]; show lstD ds m1 = _; unfold lstD; rw [if_pos h2]
theorem ev_neg {k : Int} (h1 : f ρ m = .ok (.int k) m1) : fNeg f ρ m = .ok (.int (-k)) m1 := by unfold fNeg; rw [h1]; rfl
theorem ev_onone : oNone ρ m = .ok none m := rfl
theorem ev_osome {k : Int} (h1 : f ρ m = .ok (.int k) m1) : oSome f ρ m = .ok (some k) m1 := by unfold oSome; rw [h1]; rfl
theorem ev_sl (h1 : f ρ m = .ok x m1) (h2 : fl ρ m1 = .ok lo m2) (h3 : fh ρ m2 = .ok hi m3) (h4 : gSl x lo hi m3 = r) : fSl f fl fh ρ m = r := by
  unfold fSl
  rw [h1]
  simp only [Res.bind]
  rw [h2]
  simp only [Res.bind]
  rw [h3]
  exact h4
theorem ev_chainT (h1 : fa ρ m = .ok x m1) (h2 : fb ρ m1 = .ok y m2) (h3 : gg x y m2 = .ok (.bl true) m3) (h4 : fc ρ m3 = .ok z m4) (h5 : gg' y z m4 = r) : fChain gg gg' fa fb fc ρ m = r := by
  unfold fChain
  rw [h1]
  simp only [Res.bind]
  rw [h2]
  simp only [Res.bind]
  rw [h3]
  simp only [Res.bind]
  rw [h4]
  exact h5
theorem ev_chainF (h1 : fa ρ m = .ok x m1) (h2 : fb ρ m1 = .ok y m2) (h3 : gg x y m2 = .ok (.bl false) m3) : fChain gg gg' fa fb fc ρ m = .ok (.bl false) m3 := by
  unfold fChain
  rw [h1]
  simp only [Res.bind]
  rw [h2]
  simp only [Res.bind]
  rw [h3]
theorem ev_dic0 : fDic0 ρ m = .ok (.ref m.length) (m ++ [.dic [] []]) := rfl
/-! statements -/
theorem ev_pass : sPass ρ m = .nx ρ m := rfl
theorem ev_seq (h1 : S ρ m = .nx ρ1 m1) (h2 : T ρ1 m1 = o) : sSeq S T ρ m = o := by unfold sSeq; rw [h1]; exact h2
theorem ev_seqR (h1 : S ρ m = .rt d m1) : sSeq S T ρ m = .rt d m1 := by unfold sSeq; rw [h1]
theorem ev_seqX (h1 : S ρ m = .ex e ρ1 m1) : sSeq S T ρ m = .ex e ρ1 m1 := by unfold sSeq; rw [h1]
theorem ev_set (h1 : f ρ m = .ok d m1) : sSet i f ρ m = .nx (ρ.set i (some d)) m1 := by unfold sSet; rw [h1]; rfl
theorem ev_ret (h1 : f ρ m = .ok d m1) : sRet f ρ m = .rt d m1 := by unfold sRet; rw [h1]; rfl
theorem ev_exp (h1 : f ρ m = .ok d m1) : sExpr f ρ m = .nx ρ m1 := by unfold sExpr; rw [h1]; rfl
theorem ev_expX (h1 : f ρ m = .ex e m1) : sExpr f ρ m = .ex e ρ m1 := by unfold sExpr; rw [h1]; rfl
theorem ev_ifT (h1 : g ρ m = .ok true m1) (h2 : S ρ m1 = o) : sIf g S T ρ m = o := by unfold sIf; rw [h1]; exact h2
theorem ev_ifF (h1 : g ρ m = .ok false m1) (h2 : T ρ m1 = o) : sIf g S T ρ m = o := by unfold sIf; rw [h1]; exact h2
theorem ev_raise {x : Str} : sRaise x ρ m = .ex ⟨x, []⟩ ρ m := rfl
theorem ev_setix {k : Int} {j : Nat} {xs : List D} (h1 : fe ρ m = .ok d m1) (h2 : fo ρ m1 = .ok (.ref n) m2) (h3 : fi ρ m2 = .ok (.int k) m3) (h4 : m3[n]? = some (.lst xs)) (h5 : ixN xs.length k = some j) : sSetIx fo fi fe ρ m = .nx ρ (m3.set n (.lst (xs.set j d))) := by
  unfold sSetIx
  rw [h1]
  simp only [resS]
  rw [h2]
  simp only [resS]
  rw [h3]
  simp only [resS, h4, h5]
theorem ev_fnR (h : S (startE N ds) m = .rt d m1) : fnD N S ds m = .ok d m1 := by unfold fnD; rw [h]
theorem ev_fnN (h : S (startE N ds) m = .nx ρ1 m1) : fnD N S ds m = .ok .non m1 := by unfold fnD; rw [h]
theorem ev_fnX (h : S (startE N ds) m = .ex e ρ1 m1) : fnD N S ds m = .ex e m1 := by unfold fnD; rw [h]
/-! leaves -/
theorem lf_gtI {a c : Int} : gGt (.int a) (.int c) m = .ok (.bl (decide (c < a))) m := rfl
theorem lf_ltI {a c : Int} : gLt (.int a) (.int c) m = .ok (.bl (decide (a < c))) m := rfl
theorem lf_leI {a c : Int} : gLe (.int a) (.int c) m = .ok (.bl (decide (a ≤ c))) m := rfl
theorem lf_geI {a c : Int} : gGe (.int a) (.int c) m = .ok (.bl (decide (c ≤ a))) m := rfl
theorem lf_addI {a c : Int} : gAdd (.int a) (.int c) m = .ok (.int (a + c)) m := rfl
theorem lf_subI {a c : Int} : gSub (.int a) (.int c) m = .ok (.int (a - c)) m := rfl
theorem lf_modI {a c : Int} (h : 0 < c) : gMod (.int a) (.int c) m = .ok (.int (a % c)) m := by show (if decide (0 < c) = true then _ else _) = _; rw [if_pos (decide_eq_true h)]
theorem lf_divI {a c : Int} (h : 0 < c) (h2 : c < 1073741824) : gDiv (.int a) (.int c) m = .ok (.int (a / c)) m := by show (if decide (0 < c ∧ c < 1073741824) = true then _ else _) = _; rw [if_pos (decide_eq_true ⟨h, h2⟩)]
theorem lf_mulI {a c : Int} (h : -18446744073709551616 < c ∧ c < 18446744073709551616) : gMul (.int a) (.int c) m = .ok (.int (a * c)) m := by show (if cMul a c = true then _ else _) = _; rw [if_pos (show cMul a c = true from decide_eq_true (.inr h))]
theorem lf_powI {a c : Int} (h : 0 ≤ c ∧ c ≤ 1000000 ∧ a.natAbs < 18446744073709551616) : gPow (.int a) (.int c) m = .ok (.int (a ^ c.toNat)) m := by show (if decide _ = true then _ else _) = _; rw [if_pos (decide_eq_true h)]
theorem lf_int {k : Int} : gInt [.int k] m = .ok (.int k) m := rfl
theorem lf_ixR {xs : List D} {k : Int} (h : m[n]? = some (.lst xs)) (h2 : atI xs k = some d) : gIx (.ref n) (.int k) m = .ok d m := by simp only [gIx, h, h2]
theorem lf_ixT {xs : List D} {k : Int} (h2 : atI xs k = some d) : gIx (.tup xs) (.int k) m = .ok d m := by simp only [gIx, h2]
theorem lf_ixO {xs : List D} {k : Int} (h2 : atI xs k = some d) : gIx (.rol xs) (.int k) m = .ok d m := by simp only [gIx, h2]
theorem lf_ixS {s : Str} {k : Int} {c : Nat} (h : s.length ≤ 16777216) (h2 : atI s.cps.toList k = some c) : gIx (.str s) (.int k) m = .ok (.str ⟨#[c]⟩) m := by simp only [gIx, if_pos h, h2]
theorem lf_lenO {xs : List D} : gLen [.rol xs] m = .ok (.int xs.length) m := rfl
theorem lf_lenT {xs : List D} : gLen [.tup xs] m = .ok (.int xs.length) m := rfl
theorem lf_lenR {xs : List D} (h : m[n]? = some (.lst xs)) : gLen [.ref n] m = .ok (.int xs.length) m := by simp only [gLen, h]
theorem lf_lenS {s : Str} (h : s.length ≤ 16777216) : gLen [.str s] m = .ok (.int s.length) m := by simp only [gLen, if_pos h]
theorem lf_truB : truD (.bl b) m = .ok b m := rfl
theorem lf_truS {s : Str} (h : s.length ≤ 16777216) : truD (.str s) m = .ok ((s.length : Int) != 0) m := by show (if s.length ≤ 16777216 then _ else _) = _; rw [if_pos h]
theorem lf_addS {s t : Str} (h : s.length + t.length ≤ 16777216) : gAdd (.str s) (.str t) m = .ok (.str (s ++ t)) m := by simp only [gAdd, if_pos h]
theorem lf_addT {s t : List D} (h : s.length + t.length ≤ 16777216) : gAdd (.tup s) (.tup t) m = .ok (.tup (s ++ t)) m := by simp only [gAdd, if_pos h]
theorem lf_addR {j : Nat} {s t : List D} (h1 : m[n]? = some (.lst s)) (h2 : m[j]? = some (.lst t)) (h : s.length + t.length ≤ 16777216) : gAdd (.ref n) (.ref j) m = .ok (.ref m.length) (m ++ [.lst (s ++ t)]) := by simp only [gAdd, h1, h2, if_pos h, newL]
theorem lf_starts {s t : Str} : gStarts s [.str t] m = .ok (.bl (Txt.startswith s t)) m := rfl
theorem lf_strip {s t : Str} (h : s.length ≤ 16777216) : gStripC s [.str t] m = .ok (.str (Txt.stripChars s t)) m := by show (if decide (s.length ≤ 16777216) = true then _ else _) = _; rw [if_pos (decide_eq_true h)]
theorem lf_split {s t : Str} (h : (t.length == 0) = false) (h2 : s.length + 2 ≤ 16777216) : gSplit s [.str t] m = .ok (.ref m.length) (m ++ [.lst ((Txt.split s t).map D.str)]) := by simp only [gSplit, if_pos (And.intro h h2), newL]
theorem lf_rpart {s t : Str} (h : (t.length == 0) = false) (h2 : s.length ≤ 16777216) : gRpart s [.str t] m = .ok (.tup [.str (rpart s t).1, .str (rpart s t).2.1, .str (rpart s t).2.2]) m := by simp only [gRpart, if_pos (And.intro h h2)]
theorem strs_map : ∀ ys : List Str, strsD (ys.map D.str) = some ys
  | [] => rfl
  | y :: r => by simp only [List.map_cons, strsD, strs_map r]
theorem lf_joinT {s : Str} {ys : List Str} (h : (ys.map (·.length)).sum + ys.length * s.length ≤ 16777216) : gJoin s [.tup (ys.map D.str)] m = .ok (.str (Txt.join s ys)) m := by
  show joinD s (ys.map D.str) m = _
  unfold joinD
  rw [strs_map]
  simp only [if_pos h]
theorem lf_joinR {s : Str} {ys : List Str} (h0 : m[n]? = some (.lst (ys.map D.str))) (h : (ys.map (·.length)).sum + ys.length * s.length ≤ 16777216) : gJoin s [.ref n] m = .ok (.str (Txt.join s ys)) m := by
  simp only [gJoin, h0]
  unfold joinD
  rw [strs_map]
  simp only [if_pos h]
theorem lf_slS {s : Str} (h : s.length ≤ 16777216) : gSl (.str s) lo hi m = .ok (.str (cutS s lo hi)) m := by simp only [gSl, if_pos h]
theorem lf_slT {xs : List D} : gSl (.tup xs) lo hi m = .ok (.tup (cutD xs lo hi)) m := rfl
theorem lf_slR {xs : List D} (h : m[n]? = some (.lst xs)) : gSl (.ref n) lo hi m = .ok (.ref m.length) (m ++ [.lst (cutD xs lo hi)]) := by simp only [gSl, h, newL]
theorem lf_tupR {xs : List D} (h : m[n]? = some (.lst xs)) : gTupOf [.ref n] m = .ok (.tup xs) m := by simp only [gTupOf, h]
theorem lf_tupT {xs : List D} : gTupOf [.tup xs] m = .ok (.tup xs) m := rfl
theorem lf_lstT {xs : List D} : gLstOf [.tup xs] m = .ok (.ref m.length) (m ++ [.lst xs]) := rfl
theorem lf_notB {a c : Bool} : gNotB (.bl a) (.bl c) m = .ok (.bl (!decide (a = c))) m := rfl
theorem lf_isB {a c : Bool} : gIsB (.bl a) (.bl c) m = .ok (.bl (decide (a = c))) m := rfl
theorem lf_isN : gIsN d .non m = .ok (.bl (decide (d = .non))) m := by cases d <;> rfl
theorem bls_map : ∀ ys : List Bool, blsD (ys.map D.bl) = some ys
  | [] => rfl
  | y :: r => by simp only [List.map_cons, blsD, bls_map r]
theorem lf_all {bs : List Bool} (h : m[n]? = some (.lst (bs.map D.bl))) : gAll [.ref n] m = .ok (.bl (bs.all id)) m := by
  show gBls (fun bs => bs.all id) [.ref n] m = _
  simp only [gBls, h, bls_map]
theorem lf_eqS {s t : Str} (hs1 : PyData.strOk s = true) (hs2 : PyData.strOk t = true) : gEq (.str s) (.str t) m = .ok (.bl (decide (s = t))) m := by
  show (if (SeqAt.shaped (PyData.str s) && SeqAt.shaped (PyData.str t)) = true then Res.ok (D.bl (PyData.eqv (.str s) (.str t))) m else Res.bad) = _
  have hs : (SeqAt.shaped (PyData.str s) && SeqAt.shaped (PyData.str t)) = true := by simp [SeqAt.shaped, PyData.canLay0, PyData.depth, hs1, hs2]
  have e : PyData.eqv (.str s) (.str t) = decide (s = t) := by
    simp only [PyData.eqv]
    by_cases q : s = t
    · subst q; simp
    · rw [decide_eq_false q]; exact beq_eq_false_iff_ne.mpr q
  rw [if_pos hs, e]
theorem lf_neS {s t : Str} (hs1 : PyData.strOk s = true) (hs2 : PyData.strOk t = true) : gNe (.str s) (.str t) m = .ok (.bl (!decide (s = t))) m := by
  show (if (SeqAt.shaped (PyData.str s) && SeqAt.shaped (PyData.str t)) = true then Res.ok (D.bl (!PyData.eqv (.str s) (.str t))) m else Res.bad) = _
  have hs : (SeqAt.shaped (PyData.str s) && SeqAt.shaped (PyData.str t)) = true := by simp [SeqAt.shaped, PyData.canLay0, PyData.depth, hs1, hs2]
  have e : PyData.eqv (.str s) (.str t) = decide (s = t) := by
    simp only [PyData.eqv]
    by_cases q : s = t
    · subst q; simp
    · rw [decide_eq_false q]; exact beq_eq_false_iff_ne.mpr q
  rw [if_pos hs, e]
theorem lf_eqB {a c : Bool} : gEq (.bl a) (.bl c) m = .ok (.bl (decide (a = c))) m := by cases a <;> cases c <;> rfl
theorem lf_neB {a c : Bool} : gNe (.bl a) (.bl c) m = .ok (.bl (!decide (a = c))) m := by cases a <;> cases c <;> rfl
theorem lf_eqI {a c : Int} : gEq (.int a) (.int c) m = .ok (.bl (decide (a = c))) m := by
  show (if (SeqAt.shaped (PyData.int a) && SeqAt.shaped (PyData.int c)) = true then Res.ok (D.bl (PyData.eqv (.int a) (.int c))) m else Res.bad) = _
  have hs : (SeqAt.shaped (PyData.int a) && SeqAt.shaped (PyData.int c)) = true := by simp [SeqAt.shaped, PyData.canLay0, PyData.depth]
  have e : PyData.eqv (.int a) (.int c) = decide (a = c) := by
    simp only [PyData.eqv]
    by_cases q : a = c
    · subst q; simp
    · rw [decide_eq_false q]; exact beq_eq_false_iff_ne.mpr q
  rw [if_pos hs, e]
theorem lf_neI {a c : Int} : gNe (.int a) (.int c) m = .ok (.bl (!decide (a = c))) m := by
  show (if (SeqAt.shaped (PyData.int a) && SeqAt.shaped (PyData.int c)) = true then Res.ok (D.bl (!PyData.eqv (.int a) (.int c))) m else Res.bad) = _
  have hs : (SeqAt.shaped (PyData.int a) && SeqAt.shaped (PyData.int c)) = true := by simp [SeqAt.shaped, PyData.canLay0, PyData.depth]
  have e : PyData.eqv (.int a) (.int c) = decide (a = c) := by
    simp only [PyData.eqv]
    by_cases q : a = c
    · subst q; simp
    · rw [decide_eq_false q]; exact beq_eq_false_iff_ne.mpr q
  rw [if_pos hs, e]
theorem li_NoneType_str {k : Int} {s : Str} : gIsi ["str"] .non m = .ok (.bl false) m := rfl
theorem li_NoneType_int {k : Int} {s : Str} : gIsi ["int"] .non m = .ok (.bl false) m := rfl
theorem li_NoneType_bool {k : Int} {s : Str} : gIsi ["bool"] .non m = .ok (.bl false) m := rfl
theorem li_NoneType_tuple {k : Int} {s : Str} : gIsi ["tuple"] .non m = .ok (.bl false) m := rfl
theorem li_NoneType_list {k : Int} {s : Str} : gIsi ["list"] .non m = .ok (.bl false) m := rfl
theorem li_NoneType_dict {k : Int} {s : Str} : gIsi ["dict"] .non m = .ok (.bl false) m := rfl
theorem li_NoneType_tuple_list {k : Int} {s : Str} : gIsi ["tuple", "list"] .non m = .ok (.bl false) m := rfl
theorem li_bool_str {k : Int} {s : Str} : gIsi ["str"] (.bl b) m = .ok (.bl false) m := rfl
theorem li_bool_int {k : Int} {s : Str} : gIsi ["int"] (.bl b) m = .ok (.bl true) m := rfl
theorem li_bool_bool {k : Int} {s : Str} : gIsi ["bool"] (.bl b) m = .ok (.bl true) m := rfl
theorem li_bool_tuple {k : Int} {s : Str} : gIsi ["tuple"] (.bl b) m = .ok (.bl false) m := rfl
theorem li_bool_list {k : Int} {s : Str} : gIsi ["list"] (.bl b) m = .ok (.bl false) m := rfl
theorem li_bool_dict {k : Int} {s : Str} : gIsi ["dict"] (.bl b) m = .ok (.bl false) m := rfl
theorem li_bool_tuple_list {k : Int} {s : Str} : gIsi ["tuple", "list"] (.bl b) m = .ok (.bl false) m := rfl
theorem li_int_str {k : Int} {s : Str} : gIsi ["str"] (.int k) m = .ok (.bl false) m := rfl
theorem li_int_int {k : Int} {s : Str} : gIsi ["int"] (.int k) m = .ok (.bl true) m := rfl
theorem li_int_bool {k : Int} {s : Str} : gIsi ["bool"] (.int k) m = .ok (.bl false) m := rfl
theorem li_int_tuple {k : Int} {s : Str} : gIsi ["tuple"] (.int k) m = .ok (.bl false) m := rfl
theorem li_int_list {k : Int} {s : Str} : gIsi ["list"] (.int k) m = .ok (.bl false) m := rfl
theorem li_int_dict {k : Int} {s : Str} : gIsi ["dict"] (.int k) m = .ok (.bl false) m := rfl
theorem li_int_tuple_list {k : Int} {s : Str} : gIsi ["tuple", "list"] (.int k) m = .ok (.bl false) m := rfl
theorem li_str_str {k : Int} {s : Str} : gIsi ["str"] (.str s) m = .ok (.bl true) m := rfl
theorem li_str_int {k : Int} {s : Str} : gIsi ["int"] (.str s) m = .ok (.bl false) m := rfl
theorem li_str_bool {k : Int} {s : Str} : gIsi ["bool"] (.str s) m = .ok (.bl false) m := rfl
theorem li_str_tuple {k : Int} {s : Str} : gIsi ["tuple"] (.str s) m = .ok (.bl false) m := rfl
theorem li_str_list {k : Int} {s : Str} : gIsi ["list"] (.str s) m = .ok (.bl false) m := rfl
theorem li_str_dict {k : Int} {s : Str} : gIsi ["dict"] (.str s) m = .ok (.bl false) m := rfl
theorem li_str_tuple_list {k : Int} {s : Str} : gIsi ["tuple", "list"] (.str s) m = .ok (.bl false) m := rfl
theorem li_tuple_str {k : Int} {s : Str} : gIsi ["str"] (.tup ds) m = .ok (.bl false) m := rfl
theorem li_tuple_int {k : Int} {s : Str} : gIsi ["int"] (.tup ds) m = .ok (.bl false) m := rfl
theorem li_tuple_bool {k : Int} {s : Str} : gIsi ["bool"] (.tup ds) m = .ok (.bl false) m := rfl
theorem li_tuple_tuple {k : Int} {s : Str} : gIsi ["tuple"] (.tup ds) m = .ok (.bl true) m := rfl
theorem li_tuple_list {k : Int} {s : Str} : gIsi ["list"] (.tup ds) m = .ok (.bl false) m := rfl
theorem li_tuple_dict {k : Int} {s : Str} : gIsi ["dict"] (.tup ds) m = .ok (.bl false) m := rfl
theorem li_tuple_tuple_list {k : Int} {s : Str} : gIsi ["tuple", "list"] (.tup ds) m = .ok (.bl true) m := rfl
theorem li_list_str {k : Int} {s : Str} : gIsi ["str"] (.rol ds) m = .ok (.bl false) m := rfl
theorem li_list_int {k : Int} {s : Str} : gIsi ["int"] (.rol ds) m = .ok (.bl false) m := rfl
theorem li_list_bool {k : Int} {s : Str} : gIsi ["bool"] (.rol ds) m = .ok (.bl false) m := rfl
theorem li_list_tuple {k : Int} {s : Str} : gIsi ["tuple"] (.rol ds) m = .ok (.bl false) m := rfl
theorem li_list_list {k : Int} {s : Str} : gIsi ["list"] (.rol ds) m = .ok (.bl true) m := rfl
theorem li_list_dict {k : Int} {s : Str} : gIsi ["dict"] (.rol ds) m = .ok (.bl false) m := rfl
theorem li_list_tuple_list {k : Int} {s : Str} : gIsi ["tuple", "list"] (.rol ds) m = .ok (.bl true) m := rfl
theorem li_ref_str {xs : List D} (h : m[n]? = some (.lst xs)) : gIsi ["str"] (.ref n) m = .ok (.bl false) m := by
  unfold gIsi tyD
  simp only [h]
  rfl
theorem li_ref_int {xs : List D} (h : m[n]? = some (.lst xs)) : gIsi ["int"] (.ref n) m = .ok (.bl false) m := by
  unfold gIsi tyD
  simp only [h]
  rfl
theorem li_ref_bool {xs : List D} (h : m[n]? = some (.lst xs)) : gIsi ["bool"] (.ref n) m = .ok (.bl false) m := by
  unfold gIsi tyD
  simp only [h]
  rfl
theorem li_ref_tuple {xs : List D} (h : m[n]? = some (.lst xs)) : gIsi ["tuple"] (.ref n) m = .ok (.bl false) m := by
  unfold gIsi tyD
  simp only [h]
  rfl
theorem li_ref_list {xs : List D} (h : m[n]? = some (.lst xs)) : gIsi ["list"] (.ref n) m = .ok (.bl true) m := by
  unfold gIsi tyD
  simp only [h]
  rfl
theorem li_ref_dict {xs : List D} (h : m[n]? = some (.lst xs)) : gIsi ["dict"] (.ref n) m = .ok (.bl false) m := by
  unfold gIsi tyD
  simp only [h]
  rfl
theorem li_ref_tuple_list {xs : List D} (h : m[n]? = some (.lst xs)) : gIsi ["tuple", "list"] (.ref n) m = .ok (.bl true) m := by
  unfold gIsi tyD
  simp only [h]
  rfl
theorem li_dic_str {ks : List Key} {xs : List D} (h : m[n]? = some (.dic ks xs)) : gIsi ["str"] (.ref n) m = .ok (.bl false) m := by
  unfold gIsi tyD
  simp only [h]
  rfl
theorem li_dic_int {ks : List Key} {xs : List D} (h : m[n]? = some (.dic ks xs)) : gIsi ["int"] (.ref n) m = .ok (.bl false) m := by
  unfold gIsi tyD
  simp only [h]
  rfl
theorem li_dic_bool {ks : List Key} {xs : List D} (h : m[n]? = some (.dic ks xs)) : gIsi ["bool"] (.ref n) m = .ok (.bl false) m := by
  unfold gIsi tyD
  simp only [h]
  rfl
theorem li_dic_tuple {ks : List Key} {xs : List D} (h : m[n]? = some (.dic ks xs)) : gIsi ["tuple"] (.ref n) m = .ok (.bl false) m := by
  unfold gIsi tyD
  simp only [h]
  rfl
theorem li_dic_list {ks : List Key} {xs : List D} (h : m[n]? = some (.dic ks xs)) : gIsi ["list"] (.ref n) m = .ok (.bl false) m := by
  unfold gIsi tyD
  simp only [h]
  rfl
theorem li_dic_dict {ks : List Key} {xs : List D} (h : m[n]? = some (.dic ks xs)) : gIsi ["dict"] (.ref n) m = .ok (.bl true) m := by
  unfold gIsi tyD
  simp only [h]
  rfl
theorem li_dic_tuple_list {ks : List Key} {xs : List D} (h : m[n]? = some (.dic ks xs)) : gIsi ["tuple", "list"] (.ref n) m = .ok (.bl false) m := by
  unfold gIsi tyD
  simp only [h]
  rfl
end
end Mn
end
section
set_option Elab.async false
set_option Elab.async false
set_option linter.all false
set_option maxRecDepth 100000
set_option maxHeartbeats 4000000
open PySem L2 Builtin.Str
namespace Mn
theorem tl_len (x : Str) : (TL.tl x).length = x.length := rfl
/-! ### startswith -/
theorem subAt_iff {x y : Str} {i : Nat} : subAt x y i = true ↔ ((TL.tl x).drop i).take y.length = TL.tl y := by
  unfold subAt
  rw [beq_iff_eq, ← Array.toList_inj, Array.toList_extract]
  unfold TL.tl
  simp [List.extract_eq_take_drop]
theorem starts_iff {x y : Str} : Txt.startswith x y = true ↔ TL.tl y <+: TL.tl x := by
  unfold Txt.startswith
  rw [Bool.and_eq_true, decide_eq_true_eq, subAt_iff, List.drop_zero, List.prefix_iff_eq_take]
  constructor
  · rintro ⟨_, h⟩
    exact h.symm
  · intro h
    have h2 : (TL.tl y).length = (List.take (TL.tl y).length (TL.tl x)).length := congrArg List.length h
    rw [List.length_take] at h2
    rw [tl_len, tl_len] at h2
    exact ⟨by omega, h.symm⟩
theorem starts_eq {x y : Str} : Txt.startswith x y = decide (TL.tl y <+: TL.tl x) := by
  by_cases h : TL.tl y <+: TL.tl x
  · rw [decide_eq_true h]; exact starts_iff.mpr h
  · rw [decide_eq_false h]
    cases q : Txt.startswith x y with
    | false => rfl
    | true => exact absurd (starts_iff.mp q) h
/-! ### strip -/
theorem takeWhile_all {p : Nat → Bool} : ∀ {l : List Nat}, (∀ c ∈ l, p c = true) → l.takeWhile p = l
  | [], _ => rfl
  | a :: r, h => by rw [List.takeWhile_cons, if_pos (h a List.mem_cons_self), takeWhile_all fun c hc => h c (List.mem_cons_of_mem _ hc)]
theorem strip_all {x y : Str} (h : ∀ c ∈ TL.tl x, c ∈ TL.tl y) : Txt.stripChars x y = "" := by
  have e : (x.cps.toList.takeWhile y.cps.contains) = x.cps.toList := takeWhile_all fun c hc => by
    have z : c ∈ y.cps.toList := h c hc
    simpa using z
  have lo : stripLo y.cps.contains true x = x.length := by
    unfold stripLo
    rw [if_pos rfl, e]
    rfl
  unfold Txt.stripChars Txt.stripBy
  by_cases q : stripSame y.cps.contains true true x = true
  · rw [if_pos q]
    unfold stripSame at q
    rw [Bool.and_eq_true, lo, beq_iff_eq] at q
    refine TL.ext_tl ?_
    have z : TL.tl x = [] := List.eq_nil_of_length_eq_zero q.1
    rw [z]
    rfl
  · rw [if_neg q]
    refine TL.ext_tl ?_
    unfold stripped
    rw [TL.tl_strSub, lo]
    have z : (TL.tl x).drop x.length = [] := List.drop_eq_nil_of_le (Nat.le_refl _)
    rw [z, List.take_nil]
    rfl
/-! ### rpartition -/
theorem at_one {s y : Str} {k i : Nat} (hy : TL.tl y = [k]) : StrLaws.At s y s.length i ↔ (TL.tl s)[i]? = some k := by
  have ly : y.length = 1 := by rw [← tl_len, hy]; rfl
  unfold StrLaws.At
  rw [subAt_iff, hy, ly]
  constructor
  · rintro ⟨h1, h2⟩
    have h3 : i < (TL.tl s).length := by rw [tl_len]; omega
    rw [List.drop_eq_getElem_cons h3] at h2
    simp only [List.take_succ_cons, List.take_zero] at h2
    rw [List.getElem?_eq_getElem h3]
    injection h2 with h2
    rw [h2]
  · intro h
    obtain ⟨h3, h4⟩ := List.getElem?_eq_some_iff.mp h
    refine ⟨by rw [tl_len] at h3; omega, ?_⟩
    rw [List.drop_eq_getElem_cons h3, h4]
    rfl
theorem rpart_at {s y : Str} {k : Nat} {u w : List Nat} (hy : TL.tl y = [k]) (hs : TL.tl s = u ++ k :: w) (hw : k ∉ w) : rpart s y = (⟨u.toArray⟩, y, ⟨w.toArray⟩) := by
  have here : (TL.tl s)[u.length]? = some k := by rw [hs, List.getElem?_append_right (Nat.le_refl _)]; simp
  have ly : y.length = 1 := by rw [← tl_len, hy]; rfl
  have hlast : lastOccurrence s y 0 s.length = some u.length := by
    rcases StrLaws.last_spec s y with ⟨_, h⟩ | ⟨i, h1, h2, h3⟩
    · exact absurd ((at_one hy).mpr here) (h _)
    · have hi : i = u.length := by
        rcases Nat.lt_trichotomy i u.length with z | z | z
        · exact absurd ((at_one hy).mpr here) (h3 _ z)
        · exact z
        · have h4 := (at_one hy).mp h2
          rw [hs, List.getElem?_append_right (by omega)] at h4
          obtain ⟨j, hj⟩ : ∃ j, i - u.length = j + 1 := ⟨i - u.length - 1, by omega⟩
          rw [hj, List.getElem?_cons_succ] at h4
          exact absurd (List.mem_of_getElem? h4) hw
      rw [← hi]
      exact h1
  unfold rpart
  rw [hlast]
  simp only
  refine Prod.ext ?_ (Prod.ext rfl ?_)
  · refine TL.ext_tl ?_
    show TL.tl (strSub s 0 u.length) = u
    rw [TL.tl_strSub, hs]
    simp
  · refine TL.ext_tl ?_
    show TL.tl (strSub s (u.length + y.length) s.length) = w
    rw [TL.tl_strSub_end, hs, ly]
    simp
end Mn
end
section
set_option Elab.async false
set_option Elab.async false
set_option linter.all false
set_option maxRecDepth 100000
set_option maxHeartbeats 2000000
namespace Mn
open PySem L2
variable [Clo]
/-! ### xs.append(x) -/
def fApp (fo : Env → Mem → Res D) (fs : Env → Mem → Res (List D)) : Env → Mem → Res D := fun ρ m => (fo ρ m).bind fun o m => match o with
  | .ref n => (match m[n]? with
    | some (.lst _) => (fs ρ m).bind fun ds m => (match ds, m[n]? with
      | [d], some (.lst xs) => if xs.length < 16777216 then .ok .non (m.set n (.lst (xs ++ [d]))) else .bad
      | _, _ => .bad)
    | _ => .bad)
  | _ => .bad
section
variable {X : Cx} {W : WX} {o e : Expr} {fo fe : Env → Mem → Res D} {fs : Env → Mem → Res (List D)} {apos cpos : Pos}
theorem m_append (ho : PE X o (tE X.K X.mg W fo)) (ha : PA X [e] (tA X.K X.mg W fs))
    (hbase : attributeBase o "append" X.env (eval o X.env) = eval o X.env := by rfl)
    (hfew : ((backTo cpos (starEach [e] X.env)).all (fun x => !x.1) && (backToKw cpos (keywordEach [] X.env)).all (fun x => x.1.isSome)
      && decide (([e] : List Expr).length + ([] : List Keyword).length + (if ([] : List Keyword).isEmpty then 0 else 1) < 30)) = true := by rfl)
    (hline : (apos.endLine == cpos.line) = true := by rfl) (hs : starEach [e] X.env = (false, eval e X.env) :: starEach [] X.env := by rfl) (hplain : (backTo cpos (starEach [] X.env)).any (·.1) = false := by rfl) :
    PE X (.Call (.Attribute o "append" apos) [e] [] cpos) (tE X.K X.mg W (fApp fo fs)) := by
  refine PE.of (pe_bm PySem.F.plainAttrs_list PySem.F.slot_list_append PySem.F.type_list_append mt_append ho ha hbase hfew hline hs hplain) fun σ H Q h => ?_
  obtain ⟨L, ρ, m, a, h⟩ := h
  refine ⟨L, ρ, m, a, (Fin.bind (rel := relV X.K) h).imp ?_⟩
  rintro x H1 ⟨od, m1, L1, k1, r1, i1, h1⟩
  cases od with
  | ref n =>
    obtain ⟨p, e1, e2⟩ := is_ref i1
    simp only at h1
    split at h1
    · rename_i ds0 z
      obtain ⟨vs0, f0, _⟩ := r1.lst' z e1
      subst e2
      refine ⟨.inl ⟨rfl, vs0, SqL.of f0⟩, L1, ρ, m1, a.mono k1 r1, (Fin.bind (rel := relA X.K) h1).imp ?_⟩
      rintro xs H2 ⟨ds, m2, L2, k2, r2, i2, h2⟩
      split at h2
      · rename_i d ys z2
        have e3 := k2.at e1
        obtain ⟨ws, f2, g2⟩ := r2.lst' z2 e3
        obtain ⟨v, ev, iv⟩ := isl1 i2
        by_cases hz : ys.length < 16777216
        · rw [if_pos hz] at h2
          refine ⟨p, ws, v, rfl, ev, f2, by rw [g2.length, sizeLine_eq]; exact hz, ?_⟩
          exact h2 _ _ L2 (Kp.wr r2 e3 f2) (r2.wr e3 f2 (g2.append (IsL.one iv))) rfl
        · rw [if_neg hz] at h2
          exact h2.elim
      · exact h2.elim
    · exact h1.elim
  | _ => exact (show False from h1).elim
end
/-! ### targets that are tuples -/
def TgsS (K : PySem.W.Frag) (u : TGs) (t : List D → Env → Option Env) : Prop :=
  ∀ (ds : List D) (vs : List V) (σ : St) (H : Hp) (L : List Addr) (ρ ρ' : Env) (m : Mem) (Q : St → Hp → Prop), At K σ H L ρ m → IsL K L H ds vs → t ds ρ = some ρ' → (∀ σ', At K σ' H L ρ' m → Q σ' H) → u vs σ H Q
def gsNil : List D → Env → Option Env := fun ds ρ => match ds with
  | [] => some ρ
  | _ => none
def gsCons (t : D → Env → Option Env) (u : List D → Env → Option Env) : List D → Env → Option Env := fun ds ρ => match ds with
  | [] => none
  | d :: r => match t d ρ with
    | some ρ1 => u r ρ1
    | none => none
def gTupT (n : Nat) (u : List D → Env → Option Env) : D → Env → Option Env := fun d ρ => match d with
  | .tup ds => if ds.length = n then u ds ρ else none
  | _ => none
theorem tgs_nil {K : PySem.W.Frag} : TgsS K gNil gsNil := by
  intro ds vs σ H L ρ ρ' m Q a i e q
  cases ds with
  | nil =>
    cases e
    exact ⟨i, q σ a⟩
  | cons d r => cases e
theorem tgs_cons {K : PySem.W.Frag} {g : TG} {gs : TGs} {t : D → Env → Option Env} {u : List D → Env → Option Env} (h1 : TgS K g t) (h2 : TgsS K gs u) : TgsS K (gCons g gs) (gsCons t u) := by
  intro ds vs σ H L ρ ρ' m Q a i e q
  cases ds with
  | nil => cases e
  | cons d r =>
    obtain ⟨v, vr, e1, iv, ir⟩ := (show ∃ v r', vs = v :: r' ∧ Is K L H d v ∧ IsL K L H r r' by simpa only [IsL] using i)
    simp only [gsCons] at e
    cases z : t d ρ with
    | none => simp only [z] at e; cases e
    | some ρ1 =>
      simp only [z] at e
      exact ⟨v, vr, e1, h1 d v σ H L ρ ρ1 m _ a iv z fun σ' a' => h2 r vr σ' H L ρ1 ρ' m Q a' ir e q⟩
theorem tg_tup {K : PySem.W.Frag} {n : Nat} {gs : TGs} {u : List D → Env → Option Env} (h : TgsS K gs u) : TgS K (gTup K n gs) (gTupT n u) := by
  intro d v σ H L ρ ρ' m Q a i e q
  cases d with
  | tup ds =>
    obtain ⟨p, vs, e1, f1, g1⟩ := is_tup i
    simp only [gTupT] at e
    by_cases hn : ds.length = n
    · rw [if_pos hn] at e
      exact ⟨p, vs, e1, f1.sq, by rw [g1.length]; exact hn, h ds vs σ H L ρ ρ' m Q a g1 e q⟩
    · rw [if_neg hn] at e
      cases e
  | _ => cases e
def sAsg (f : Env → Mem → Res D) (t : D → Env → Option Env) : Env → Mem → Out := fun ρ m => resS (f ρ m) ρ fun d m => match t d ρ with
  | some ρ' => .nx ρ' m
  | none => .bad
section
variable {X : Cx} {W : WX} {tg e : Expr} {f : Env → Mem → Res D} {g : TG} {t : D → Env → Option Env} {pos : Pos}
theorem m_asg (he : PE X e (tE X.K X.mg W f)) (hg : PG X tg g) (ht : TgS X.K g t) (hs : swapsWithSole [tg] e pos.line X.env = pure false := by rfl) (hw : swappedStores [tg] e X.env = pure none := by rfl)
    (h1 : (assignEach [tg] X.env).map (·.2) = [assign tg X.env] := by rfl) : PS X (.Assign [tg] e pos) (tS X.K X.mg W (sAsg f t)) := by
  refine PS.of (ps_asg he hg hs hw h1) fun D σ H h => ?_
  obtain ⟨L, ρ, m, a, h⟩ := h
  refine ⟨L, ρ, m, a, (FinS.bind (rel := relV X.K) a h).imp ?_⟩
  rintro v H1 ⟨d, m1, L1, k1, r1, i1, h1⟩
  cases z : t d ρ with
  | none =>
    simp only [z] at h1
    exact h1.elim
  | some ρ' =>
    simp only [z] at h1
    exact ht d v σ H1 L1 ρ ρ' m1 _ (a.mono k1 r1) i1 z fun σ' a' => h1 σ' H1 L1 (Kp.refl H1 L1) a'
end
/-! ### x in a list -/
section
variable {K : PySem.W.Frag} {mg : Str → Option Value}
def gInL (neg : Bool) : D → D → Mem → Res D := fun x y m => match pyM m x, pyM m y with
  | some d, some (.list ds) => if (SeqAt.shaped d && SeqAt.shaped (.list ds)) = true then .ok (.bl (neg != ds.any fun z => PyData.eqv z d)) m else .bad
  | _, _ => .bad
theorem os_in : OpS K mg (rInD K) (gInL false) := by
  intro H L m dx dy x y W Q r ix iy h
  unfold gInL at h
  split at h
  · rename_i d ds e1 e2
    by_cases hz : (SeqAt.shaped d && SeqAt.shaped (.list ds)) = true
    · rw [if_pos hz] at h
      rw [Bool.and_eq_true] at hz
      exact ⟨d, ds, dpm_of r ix e1, dpm_of r iy e2, hz.1, hz.2, Fin.ok (rel := relV K) h r (show V.bl _ = V.bl (false != _) from by rw [Bool.false_bne])⟩
    · rw [if_neg hz] at h
      exact h.elim
  · exact h.elim
theorem os_notIn : OpS K mg (rNotInD K) (gInL true) := by
  intro H L m dx dy x y W Q r ix iy h
  unfold gInL at h
  split at h
  · rename_i d ds e1 e2
    by_cases hz : (SeqAt.shaped d && SeqAt.shaped (.list ds)) = true
    · rw [if_pos hz] at h
      rw [Bool.and_eq_true] at hz
      exact ⟨d, ds, dpm_of r ix e1, dpm_of r iy e2, hz.1, hz.2, Fin.ok (rel := relV K) h r (show V.bl _ = V.bl (true != _) from by rw [Bool.true_bne])⟩
    · rw [if_neg hz] at h
      exact h.elim
  · exact h.elim
end
end Mn
end
section
set_option Elab.async false
set_option Elab.async false
set_option linter.all false
set_option maxRecDepth 100000
set_option maxHeartbeats 2000000
namespace Mn
open PySem PySem.Spec PyProof.Rows L2
variable [Clo]
/-! ### dicts whose keys are ints and texts: keys and values side by side -/
def keyD : D → Option Key
  | .int i => some (.inl i)
  | .str s => some (.inr s)
  | _ => none
def valD : List Key → List D → Key → Option D
  | a :: ks, d :: ds, k => if a = k then some d else valD ks ds k
  | _, _, _ => none
/-- in its place, or at the end: the values -/
def putDs : List Key → List D → Key → D → List D
  | a :: ks, d :: ds, k, x => if a = k then x :: (putDs ks ds k x) else d :: putDs ks ds k x
  | _, _, _, _ => []
theorem key_is {K : PySem.W.Frag} {L : List Addr} {H : Hp} {d : D} {v : V} {k : Key} (h : keyD d = some k) (i : Is K L H d v) : v = kV k := by
  cases d with
  | int n => cases h; exact i
  | str s => cases h; exact i
  | _ => cases h
theorem val_at {K : PySem.W.Frag} {L : List Addr} {H : Hp} {k : Key} : ∀ {kvs : List (Key × V)} {ds : List D}, IsL K L H ds (kvs.map (·.2)) →
    (∀ d, valD (kvs.map (·.1)) ds k = some d → ∃ v, valV kvs k = some v ∧ Is K L H d v) ∧ (valD (kvs.map (·.1)) ds k = none → valV kvs k = none)
  | [], ds, h => by
    have e : ds = [] := by
      cases ds with
      | nil => rfl
      | cons d r => simp [IsL] at h
    subst e
    exact ⟨fun d z => (by cases z), fun _ => rfl⟩
  | p :: r, [], h => by
    have z : (p :: r).map (·.2) = [] := h
    cases z
  | p :: r, d :: ds, h => by
    obtain ⟨v, vr, e1, i, f⟩ := (show ∃ v r', (p :: r).map (·.2) = v :: r' ∧ Is K L H d v ∧ IsL K L H ds r' by simpa only [IsL] using h)
    simp only [List.map_cons, List.cons.injEq] at e1
    obtain ⟨e2, e3⟩ := e1
    subst e2 e3
    obtain ⟨q1, q2⟩ := val_at (k := k) f
    simp only [List.map_cons, valD]
    by_cases z : p.1 = k
    · rw [if_pos z, valV_pos z]
      exact ⟨fun x e => by cases e; exact ⟨_, rfl, i⟩, fun e => by cases e⟩
    · rw [if_neg z, valV_neg z]
      exact ⟨q1, q2⟩
section
variable {X : Cx}
abbrev rIxD : R2 := fun x y H Q => ∃ a v, x = .ref a ∧ DGet H a y (some v) ∧ Q v H
theorem ix_dict (hu : X.A.units + 1 < cLine) : IxR X rIxD := by
  intro value slice pins s σ H x y v u Q I rx ry h hs
  obtain ⟨a, w, rfl, g, q⟩ := h
  cases rx
  have hT := dict_typeIs I g
  unfold subscriptTail
  refine wpAny_bind ?_
  rw [getitemInPython_of_ne hT.not_modules]
  refine wpAny_bind (wpAny_specialOf hT PySem.F.slot_dict_getitem.lookup ?_)
  have fin : wpAny (model X.prog X.w) X.A (subscripted slice false (.ref a) u) (fun r s₃ => wpAny (model X.prog X.w) X.A (letTemporaryGo value (.ref a) r >>= fun _ => pure r) (EP X pins σ Q) X.xe s₃) X.xe s := by
    rw [hs]
    exact wpAny_operating (d_getItem hu I g ry fun w' s' I' r' => wpAny_bind (wpAny_letTemporaryGo (wpAny_pure ⟨w, H, I', r', q⟩)))
  first
    | exact wpAny_pure (wpAny_bind fin)
    | exact wpAny_bind (wpAny_pure (wpAny_bind fin))
    | exact wpAny_bind fin
abbrev rInDc : R2 := fun x y H Q => ∃ a o, y = .ref a ∧ DGet H a x o ∧ Q (.bl o.isSome) H
abbrev rNotInDc : R2 := fun x y H Q => ∃ a o, y = .ref a ∧ DGet H a x o ∧ Q (.bl (!o.isSome)) H
theorem op_inDc (hu : X.A.units + 1 < cLine) : OpR X (compareOp .In) rInDc := by
  intro pins s σ H x y v u Q I rx ry h
  obtain ⟨a, o, rfl, g, q⟩ := h
  cases ry
  exact d_in hu I g rx fun s' I' => ⟨.bl o.isSome, H, I', rfl, q⟩
theorem op_notInDc (hu : X.A.units + 1 < cLine) : OpR X (compareOp .NotIn) rNotInDc := by
  intro pins s σ H x y v u Q I rx ry h
  obtain ⟨a, o, rfl, g, q⟩ := h
  cases ry
  exact d_notIn hu I g rx fun s' I' => ⟨.bl (!o.isSome), H, I', rfl, q⟩
end
section
variable {K : PySem.W.Frag} {mg : Str → Option Value}
/-- x[k], x a sequence or a dict -/
def gIx2 : D → D → Mem → Res D := fun x y m => match x with
  | .ref n => (match m[n]? with
    | some (.dic ks ds) => (match keyD y with
      | some k => (match valD ks ds k with
        | some d => .ok d m
        | none => .bad)
      | none => .bad)
    | _ => gIx x y m)
  | _ => gIx x y m
theorem OpS.or {r r' : R2} {g : D → D → Mem → Res D} (h : ∀ (H : Hp) (L : List Addr) (m : Mem) (dx dy : D) (x y : V) (W : XK) (Q : VK), Rep K H L m → Is K L H dx x → Is K L H dy y → Fin K mg (relV K) W H L (g dx dy m) Q → r x y H Q ∨ r' x y H Q) : OpS K mg (fun x y H Q => r x y H Q ∨ r' x y H Q) g := h
theorem os_ix2 : OpS K mg (fun x y H Q => rIx K x y H Q ∨ rIxD x y H Q) gIx2 := by
  intro H L m dx dy x y W Q r ix iy h
  have seq : Fin K mg (relV K) W H L (gIx dx dy m) Q → rIx K x y H Q ∨ rIxD x y H Q := fun h => .inl (os_ix H L m dx dy x y W Q r ix iy h)
  unfold gIx2 at h
  cases dx with
  | ref n =>
    obtain ⟨p, e1, e2⟩ := is_ref ix
    simp only at h
    split at h
    · rename_i ks ds z
      obtain ⟨a', kvs, e3, f1, f2, f3⟩ := r.dic z
      rw [e1] at e3
      cases e3
      subst f2
      split at h
      · rename_i k hk
        split at h
        · rename_i d hd
          obtain ⟨v, hv, iv⟩ := (val_at f3).1 d hd
          refine .inr ⟨p, v, e2, ?_, Fin.ok (rel := relV K) h r iv⟩
          rw [key_is hk iy, ← hv]
          exact DGet.k f1
        · exact h.elim
      · exact h.elim
    · exact seq h
  | _ => exact seq h
/-- x in y, y a list or a dict -/
def gIn2 (neg : Bool) : D → D → Mem → Res D := fun x y m => match y with
  | .ref n => (match m[n]? with
    | some (.dic ks ds) => (match keyD x with
      | some k => .ok (.bl (neg != (valD ks ds k).isSome)) m
      | none => .bad)
    | _ => gInL neg x y m)
  | _ => gInL neg x y m
theorem dget_of {H : Hp} {L : List Addr} {m : Mem} {n : Nat} {ks : List Key} {ds : List D} {dx : D} {x y : V} {k : Key} (r : Rep K H L m) (iy : Is K L H (.ref n) y) (ix : Is K L H dx x) (z : m[n]? = some (.dic ks ds)) (hk : keyD dx = some k) :
    ∃ a o, y = .ref a ∧ DGet H a x o ∧ o.isSome = (valD ks ds k).isSome := by
  obtain ⟨p, e1, e2⟩ := is_ref iy
  obtain ⟨a', kvs, e3, f1, f2, f3⟩ := r.dic z
  rw [e1] at e3
  cases e3
  subst f2
  refine ⟨p, valV kvs k, e2, by rw [key_is hk ix]; exact DGet.k f1, ?_⟩
  cases q : valD (kvs.map (·.1)) ds k with
  | none =>
    rw [(val_at f3).2 q]
    rfl
  | some d =>
    obtain ⟨v, hv, _⟩ := (val_at f3).1 d q
    rw [hv]
    rfl
theorem os_in2 : OpS K mg (fun x y H Q => rInD K x y H Q ∨ rInDc x y H Q) (gIn2 false) := by
  intro H L m dx dy x y W Q r ix iy h
  have seq : Fin K mg (relV K) W H L (gInL false dx dy m) Q → rInD K x y H Q ∨ rInDc x y H Q := fun h => .inl (os_in H L m dx dy x y W Q r ix iy h)
  unfold gIn2 at h
  cases dy with
  | ref n =>
    simp only at h
    split at h
    · rename_i ks ds z
      split at h
      · rename_i k hk
        obtain ⟨a, o, e, g, q⟩ := dget_of r iy ix z hk
        refine .inr ⟨a, o, e, g, Fin.ok (rel := relV K) h r (show V.bl _ = V.bl (false != _) from by rw [Bool.false_bne, q])⟩
      · exact h.elim
    · exact seq h
  | _ => exact seq h
theorem os_notIn2 : OpS K mg (fun x y H Q => rNotInD K x y H Q ∨ rNotInDc x y H Q) (gIn2 true) := by
  intro H L m dx dy x y W Q r ix iy h
  have seq : Fin K mg (relV K) W H L (gInL true dx dy m) Q → rNotInD K x y H Q ∨ rNotInDc x y H Q := fun h => .inl (os_notIn H L m dx dy x y W Q r ix iy h)
  unfold gIn2 at h
  cases dy with
  | ref n =>
    simp only at h
    split at h
    · rename_i ks ds z
      split at h
      · rename_i k hk
        obtain ⟨a, o, e, g, q⟩ := dget_of r iy ix z hk
        refine .inr ⟨a, o, e, g, Fin.ok (rel := relV K) h r (show V.bl _ = V.bl (true != _) from by rw [Bool.true_bne, q])⟩
      · exact h.elim
    · exact seq h
  | _ => exact seq h
end
section
variable {X : Cx}
theorem ix_all (hu : X.A.units + 1 < cLine) : IxR X (fun x y H Q => rIx X.K x y H Q ∨ rIxD x y H Q) := ix_seq.or (ix_dict hu)
theorem op_in2 (hu : X.A.units + 65 < cLine) : OpR X (compareOp .In) (fun x y H Q => rInD X.K x y H Q ∨ rInDc x y H Q) := (op_inD hu).or (op_inDc (by omega))
theorem op_notIn2 (hu : X.A.units + 65 < cLine) : OpR X (compareOp .NotIn) (fun x y H Q => rNotInD X.K x y H Q ∨ rNotInDc x y H Q) := (op_notInD hu).or (op_notInDc (by omega))
end
/-! ### a dict is written -/
theorem Kp.wrO {K H L m} (r : Rep K H L m) {n : Nat} {a : Addr} {o0 o : HO} (ha : L[n]? = some a) (hv : H a = some o0) (h1 : ∀ ps, o0 ≠ .tbl ps) (h2 : ∀ φ, o0 ≠ .ext φ) : Kp H L (upd H a o) L :=
  ⟨⟨[], by simp⟩, fun b u hb e _ => by rw [upd_ne (fun z => hb (by rw [z]; exact List.mem_of_getElem? ha))]; exact e, fun b ps e => ⟨ps, by rw [upd_ne (fun z => by rw [z, hv] at e; exact h1 _ (Option.some.inj e))]; exact e⟩, fun b i n => absurd i n, fun t p hp => by
    obtain ⟨ps, q1, q2, q3⟩ := t p hp
    refine ⟨ps, by rw [upd_ne (fun z => by rw [z, hv] at q1; exact h1 _ (Option.some.inj q1))]; exact q1, q2, fun pos cv hc => ?_⟩
    obtain ⟨c, e1, e2⟩ := q3 pos cv hc
    refine ⟨c, e1, ?_⟩
    rw [upd_ne (fun z => by rw [z, hv] at e2; exact h2 _ (Option.some.inj e2))]
    exact e2⟩
theorem Rep.wrO {K H L m} (r : Rep K H L m) {n : Nat} {a : Addr} {o0 o : HO} {ob : Obj} (ha : L[n]? = some a) (kp : Kp H L (upd H a o) L) (hi : OIs K L (upd H a o) a ob) : Rep K (upd H a o) L (m.set n ob) := by
  refine ⟨by rw [List.length_set]; exact r.len, r.nd, fun j b u e1 e2 => ?_, kp.tabs r.tab, Clo.jm _ _ _ _ kp r.j⟩
  by_cases q : n = j
  · subst q
    rw [ha] at e1
    cases e1
    have hn : n < m.length := by rw [← r.len]; exact (List.getElem?_eq_some_iff.mp ha).1
    rw [List.getElem?_set_self hn] at e2
    cases e2
    exact hi
  · rw [List.getElem?_set_ne q] at e2
    have nb : b ≠ a := fun z => by
      rw [z] at e1
      exact q (nd_ix r.nd ha e1)
    exact OIs.mono kp (upd_ne nb) (r.ob j b u e1 e2)
def hasK (ks : List Key) (k : Key) : Bool := ks.any fun a => decide (a = k)
def putKs (ks : List Key) (k : Key) : List Key := if hasK ks k = true then ks else ks ++ [k]
def putVs (ks : List Key) (ds : List D) (k : Key) (x : D) : List D := if hasK ks k = true then putDs ks ds k x else ds ++ [x]
theorem any_mem {kvs : List (Key × V)} {k : Key} : (kvs.any fun kv => decide (kv.1 = k)) = hasK (kvs.map (·.1)) k := by
  unfold hasK
  rw [List.any_map]
  rfl
theorem putDs_is {K : PySem.W.Frag} {L : List Addr} {H : Hp} {k : Key} {x : D} {v : V} (ix : Is K L H x v) : ∀ {kvs : List (Key × V)} {ds : List D}, IsL K L H ds (kvs.map (·.2)) → IsL K L H (putDs (kvs.map (·.1)) ds k x) ((kvs.map fun kv => if kv.1 = k then (kv.1, v) else kv).map (·.2))
  | [], ds, h => rfl
  | p :: r, [], h => by
    have z : (p :: r).map (·.2) = [] := h
    cases z
  | p :: r, d :: ds, h => by
    obtain ⟨u, ur, e1, i, f⟩ := (show ∃ v r', (p :: r).map (·.2) = v :: r' ∧ Is K L H d v ∧ IsL K L H ds r' by simpa only [IsL] using h)
    simp only [List.map_cons, List.cons.injEq] at e1
    obtain ⟨e2, e3⟩ := e1
    subst e2 e3
    have ih := putDs_is (k := k) ix f
    simp only [List.map_cons, putDs]
    by_cases z : p.1 = k
    · rw [if_pos z, if_pos z]
      simp only [IsL]
      exact ⟨v, _, rfl, ix, ih⟩
    · rw [if_neg z, if_neg z]
      simp only [IsL]
      exact ⟨p.2, _, rfl, i, ih⟩
theorem putK_is {K : PySem.W.Frag} {L : List Addr} {H : Hp} {k : Key} {x : D} {v : V} {kvs : List (Key × V)} {ds : List D} (ix : Is K L H x v) (h : IsL K L H ds (kvs.map (·.2))) :
    (putK kvs k v).map (·.1) = putKs (kvs.map (·.1)) k ∧ IsL K L H (putVs (kvs.map (·.1)) ds k x) ((putK kvs k v).map (·.2)) := by
  unfold putK putKs putVs
  rw [any_mem]
  by_cases z : hasK (kvs.map (·.1)) k = true
  · rw [if_pos z, if_pos z, if_pos z]
    refine ⟨?_, putDs_is ix h⟩
    rw [List.map_map]
    refine List.map_congr_left fun p _ => ?_
    simp only [Function.comp]
    split <;> rfl
  · rw [if_neg z, if_neg z, if_neg z]
    refine ⟨by simp, ?_⟩
    rw [List.map_append]
    exact h.append (IsL.one ix)
def sSetIx2 (fo fi fe : Env → Mem → Res D) : Env → Mem → Out := fun ρ m => resS (fe ρ m) ρ fun d m => resS (fo ρ m) ρ fun o m => resS (fi ρ m) ρ fun i m => match o with
  | .ref n => (match m[n]? with
    | some (.lst ds) => (match i with
      | .int k => (match ixN ds.length k with
        | some j => .nx ρ (m.set n (.lst (ds.set j d)))
        | none => .bad)
      | _ => .bad)
    | some (.dic ks ds) => (match keyD i with
      | some k => if ks.length < 16777216 then .nx ρ (m.set n (.dic (putKs ks k) (putVs ks ds k d))) else .bad
      | none => .bad)
    | _ => .bad)
  | _ => .bad
section
variable {X : Cx} {W : WX} {o i e : Expr} {fo fe fi : Env → Mem → Res D} {pos pos' : Pos}
abbrev rSetD : V → V → V → Hp → (Hp → Prop) → Prop := fun o i v H Q => ∃ a H', o = .ref a ∧ DPut H a i v H' ∧ Q H'
theorem set_dict (hu : X.A.units + 1 < cLine) : PSet X rSetD := by
  intro pins s σ H o i v ov iv u Q I ro ri rv h
  obtain ⟨a, H', rfl, g, q⟩ := h
  cases ro
  exact d_setItem hu I g ri rv fun s' I' => ⟨H', I', q⟩
theorem PSet.or {r r' : TSet} (h : PSet X r) (h' : PSet X r') : PSet X (fun o i v H Q => r o i v H Q ∨ r' o i v H Q) := by
  intro pins s σ H o i v ov iv u Q I ro ri rv q
  rcases q with q | q
  · exact h pins s σ H o i v ov iv u Q I ro ri rv q
  · exact h' pins s σ H o i v ov iv u Q I ro ri rv q
theorem m_setix2 (hu : X.A.units + 1 < cLine) (he : PE X e (tE X.K X.mg W fe)) (ho : PE X o (tE X.K X.mg W fo)) (hi : PE X i (tE X.K X.mg W fi))
    (ha : ∀ v, assign (.Subscript o i pos') X.env v = (do
      let ov ← holding [v] (eval o X.env)
      let iv ← holding [v, ov] (eval i X.env)
      standAt pos'
      holding [v, ov, iv] (setItem ov iv v)
      release [v, ov, iv] []) := by intro _; rfl)
    (hs : swapsWithSole [.Subscript o i pos'] e pos.line X.env = pure false := by rfl) (hw : swappedStores [.Subscript o i pos'] e X.env = pure none := by rfl)
    (h1 : (assignEach [.Subscript o i pos'] X.env).map (·.2) = [assign (.Subscript o i pos') X.env] := by rfl) : PS X (.Assign [.Subscript o i pos'] e pos) (tS X.K X.mg W (sSetIx2 fo fi fe)) := by
  refine PS.of (ps_asg he (pg_sub ho hi (PSet.or set_list (set_dict hu)) ha) hs hw h1) fun D σ H h => ?_
  obtain ⟨L, ρ, m, a, h⟩ := h
  refine ⟨L, ρ, m, a, (FinS.bind (rel := relV X.K) a h).imp ?_⟩
  rintro v H1 ⟨d, m1, L1, k1, r1, i1, h1⟩
  have a1 := a.mono k1 r1
  refine ⟨L1, ρ, m1, a1, (FinS.bind (rel := relV X.K) a1 h1).imp ?_⟩
  rintro ov H2 ⟨od, m2, L2, k2, r2, i2, h2⟩
  have a2 := a1.mono k2 r2
  refine ⟨L2, ρ, m2, a2, (FinS.bind (rel := relV X.K) a2 h2).imp ?_⟩
  rintro iv H3 ⟨id, m3, L3, k3, r3, i3, h3⟩
  have a3 := a2.mono k3 r3
  have id1 := (k2.trans k3).is _ i1
  cases od with
  | ref n =>
    obtain ⟨p, e1, e2⟩ := is_ref (k3.is _ i2)
    simp only at h3
    split at h3
    · rename_i ds z
      obtain ⟨vs, f1, g1⟩ := r3.lst' z e1
      cases id with
      | int k =>
        simp only at h3
        split at h3
        · rename_i j z2
          refine .inl ⟨p, vs, k, j, e2, i3, f1, by rw [g1.length]; exact z2, ?_⟩
          exact h3 σ _ L3 (Kp.wr r3 e1 f1) (a3.mono (Kp.wr r3 e1 f1) (r3.wr e1 f1 (g1.set j id1)))
        · exact h3.elim
      | _ => exact (show False from h3).elim
    · rename_i ks ds z
      obtain ⟨a', kvs, e3, f1, f2, f3⟩ := r3.dic z
      rw [e1] at e3
      cases e3
      subst f2
      split at h3
      · rename_i k hk
        by_cases hz : (kvs.map (·.1)).length < 16777216
        · rw [if_pos hz] at h3
          rw [List.length_map] at hz
          have kp : Kp H3 L3 (upd H3 p (.dK (putK kvs k v))) L3 := Kp.wrO r3 e1 f1 (fun ps z => by cases z) (fun φ z => by cases z)
          have pk := putK_is (k := k) (kp.is _ id1) (kp.isL _ f3)
          have rp := r3.wrO (o0 := .dK kvs) (ob := .dic (putKs (kvs.map (·.1)) k) (putVs (kvs.map (·.1)) ds k d)) e1 kp ⟨putK kvs k v, upd_same, pk.1, pk.2⟩
          refine .inr ⟨p, _, e2, ?_, h3 σ _ L3 kp (a3.mono kp rp)⟩
          rw [key_is hk i3]
          exact DPut.k f1 (by rw [sizeLine_eq]; exact hz)
        · rw [if_neg hz] at h3
          exact h3.elim
      · exact h3.elim
    · exact h3.elim
  | _ => exact (show False from h3).elim
end
end Mn
end
section
set_option Elab.async false
set_option Elab.async false
set_option linter.all false
set_option maxRecDepth 100000
set_option maxHeartbeats 2000000
namespace Mn
open PySem PySem.Spec PyProof.Rows L2
variable [Clo]
/-! ### d.get(k, x), d.pop(k) -/
def fGet2 (fo fe ff : Env → Mem → Res D) : Env → Mem → Res D := fun ρ m => (fo ρ m).bind fun o m => match o with
  | .ref n => (match m[n]? with
    | some (.dic _ _) => (fe ρ m).bind fun k m => (ff ρ m).bind fun z m => (match m[n]?, keyD k with
      | some (.dic ks ds), some k => .ok ((valD ks ds k).getD z) m
      | _, _ => .bad)
    | _ => .bad)
  | _ => .bad
def dropKs (ks : List Key) (k : Key) : List Key := ks.filter fun a => decide (a ≠ k)
def dropVs : List Key → List D → Key → List D
  | a :: ks, d :: ds, k => if a = k then dropVs ks ds k else d :: dropVs ks ds k
  | _, _, _ => []
def fPop1 (fo fe : Env → Mem → Res D) : Env → Mem → Res D := fun ρ m => (fo ρ m).bind fun o m => match o with
  | .ref n => (match m[n]? with
    | some (.dic _ _) => (fe ρ m).bind fun k m => (match m[n]?, keyD k with
      | some (.dic ks ds), some k => (match valD ks ds k with
        | some d => .ok d (m.set n (.dic (dropKs ks k) (dropVs ks ds k)))
        | none => .bad)
      | _, _ => .bad)
    | _ => .bad)
  | _ => .bad
theorem dropK_is {K : PySem.W.Frag} {L : List Addr} {H : Hp} {k : Key} : ∀ {kvs : List (Key × V)} {ds : List D}, IsL K L H ds (kvs.map (·.2)) → (dropK kvs k).map (·.1) = dropKs (kvs.map (·.1)) k ∧ IsL K L H (dropVs (kvs.map (·.1)) ds k) ((dropK kvs k).map (·.2))
  | [], ds, h => ⟨rfl, rfl⟩
  | p :: r, [], h => by
    have z : (p :: r).map (·.2) = [] := h
    cases z
  | p :: r, d :: ds, h => by
    obtain ⟨u, ur, e1, i, f⟩ := (show ∃ v r', (p :: r).map (·.2) = v :: r' ∧ Is K L H d v ∧ IsL K L H ds r' by simpa only [IsL] using h)
    simp only [List.map_cons, List.cons.injEq] at e1
    obtain ⟨e2, e3⟩ := e1
    subst e2 e3
    obtain ⟨q1, q2⟩ := dropK_is (k := k) f
    unfold dropK dropKs at q1 ⊢
    unfold dropK at q2
    simp only [List.map_cons, dropVs]
    by_cases z : p.1 = k
    · rw [if_pos z, List.filter_cons, List.filter_cons, if_neg (by simp [z]), if_neg (by simp [z])]
      exact ⟨q1, q2⟩
    · rw [if_neg z, List.filter_cons, List.filter_cons, if_pos (by simp [z]), if_pos (by simp [z])]
      refine ⟨by rw [List.map_cons, q1], ?_⟩
      simp only [List.map_cons, IsL]
      exact ⟨p.2, _, rfl, i, q2⟩
section
variable {X : Cx} {W : WX} {o e f : Expr} {fo fe ff : Env → Mem → Res D} {apos cpos : Pos}
theorem m_get2 (hu : X.A.units + 1 < cLine) (ho : PE X o (tE X.K X.mg W fo)) (he : PE X e (tE X.K X.mg W fe)) (hf : PE X f (tE X.K X.mg W ff)) (hm : M2 X o "get" apos e f cpos := by exact ⟨rfl, rfl, rfl, rfl⟩) :
    PE X (.Call (.Attribute o "get" apos) [e, f] [] cpos) (tE X.K X.mg W (fGet2 fo fe ff)) := by
  refine PE.of (pe_dget2 hu ho he hf hm) fun σ H Q h => ?_
  obtain ⟨L, ρ, m, a, h⟩ := h
  refine ⟨L, ρ, m, a, (Fin.bind (rel := relV X.K) h).imp ?_⟩
  rintro x H1 ⟨od, m1, L1, k1, r1, i1, h1⟩
  cases od with
  | ref n =>
    obtain ⟨p, e1, e2⟩ := is_ref i1
    simp only at h1
    split at h1
    · rename_i ks0 ds0 z
      obtain ⟨a', kvs0, e3, f1, _, _⟩ := r1.dic z
      rw [e1] at e3
      cases e3
      have a1 := a.mono k1 r1
      refine ⟨p, e2, .inl ⟨kvs0, .inl f1⟩, L1, ρ, m1, a1, (Fin.bind (rel := relV X.K) h1).imp ?_⟩
      rintro y H2 ⟨kd, m2, L2, k2, r2, i2, h2⟩
      have a2 := a1.mono k2 r2
      refine ⟨L2, ρ, m2, a2, (Fin.bind (rel := relV X.K) h2).imp ?_⟩
      rintro zv H3 ⟨zd, m3, L3, k3, r3, i3, h3⟩
      split at h3
      · rename_i ks ds k z3 hk
        obtain ⟨a', kvs, e4, g1, g2, g3⟩ := r3.dic z3
        rw [k3.at (k2.at e1)] at e4
        cases e4
        subst g2
        refine ⟨valV kvs k, by rw [key_is hk i2]; exact DGet.k g1, Fin.ok (rel := relV X.K) h3 r3 ?_⟩
        cases q : valD (kvs.map (·.1)) ds k with
        | none =>
          rw [(val_at g3).2 q]
          exact i3
        | some d =>
          obtain ⟨v, hv, iv⟩ := (val_at g3).1 d q
          rw [hv]
          exact iv
      · exact h3.elim
    · exact h1.elim
  | _ => exact (show False from h1).elim
theorem m_pop1 (ho : PE X o (tE X.K X.mg W fo)) (he : PE X e (tE X.K X.mg W fe)) (hm : M1 X o "pop" apos e cpos := by exact ⟨rfl, rfl, rfl, rfl⟩) :
    PE X (.Call (.Attribute o "pop" apos) [e] [] cpos) (tE X.K X.mg W (fPop1 fo fe)) := by
  refine PE.of (pe_dpop1 ho he hm) fun σ H Q h => ?_
  obtain ⟨L, ρ, m, a, h⟩ := h
  refine ⟨L, ρ, m, a, (Fin.bind (rel := relV X.K) h).imp ?_⟩
  rintro x H1 ⟨od, m1, L1, k1, r1, i1, h1⟩
  cases od with
  | ref n =>
    obtain ⟨p, e1, e2⟩ := is_ref i1
    simp only at h1
    split at h1
    · rename_i ks0 ds0 z
      obtain ⟨a', kvs0, e3, f1, _, _⟩ := r1.dic z
      rw [e1] at e3
      cases e3
      have a1 := a.mono k1 r1
      refine ⟨p, e2, .inl ⟨kvs0, .inl f1⟩, L1, ρ, m1, a1, (Fin.bind (rel := relV X.K) h1).imp ?_⟩
      rintro y H2 ⟨kd, m2, L2, k2, r2, i2, h2⟩
      split at h2
      · rename_i ks ds k z3 hk
        obtain ⟨a', kvs, e4, g1, g2, g3⟩ := r2.dic z3
        have ep := k2.at e1
        rw [ep] at e4
        cases e4
        subst g2
        split at h2
        · rename_i d q
          obtain ⟨v, hv, iv⟩ := (val_at g3).1 d q
          have kp : Kp H2 L2 (upd H2 p (.dK (dropK kvs k))) L2 := Kp.wrO r2 ep g1 (fun ps z => by cases z) (fun φ z => by cases z)
          have dk := dropK_is (k := k) (kp.isL _ g3)
          have rp := r2.wrO (o0 := .dK kvs) (ob := .dic (dropKs (kvs.map (·.1)) k) (dropVs (kvs.map (·.1)) ds k)) ep kp ⟨dropK kvs k, upd_same, dk.1, dk.2⟩
          exact ⟨kvs, k, v, g1, key_is hk i2, hv, h2 _ _ L2 kp rp (kp.is _ iv)⟩
        · exact h2.elim
      · exact h2.elim
    · exact h1.elim
  | _ => exact (show False from h1).elim
end
/-! ### list(d), sum(xs) -/
def kD : Key → D
  | .inl i => .int i
  | .inr s => .str s
section
variable {K : PySem.W.Frag} {mg : Str → Option Value}
def gLst2 : List D → Mem → Res D := fun xs m => match xs with
  | [.ref n] => (match m[n]? with
    | some (.dic ks _) => newL (ks.map kD) m
    | _ => gLstOf xs m)
  | _ => gLstOf xs m
theorem isl_keys {L H} : ∀ kvs : List (Key × V), IsL K L H ((kvs.map (·.1)).map kD) (kvs.map fun kv => kV kv.1)
  | [] => rfl
  | p :: r => by
    simp only [List.map_cons, IsL]
    refine ⟨kV p.1, _, rfl, ?_, isl_keys r⟩
    cases p.1 <;> rfl
theorem cs_lst2 : CallS K mg (fun xs H Q => rLstOf K xs H Q ∨ rListD xs H Q) gLst2 := by
  intro H L m ds vs W Q r i h
  have seq : Fin K mg (relV K) W H L (gLstOf ds m) Q → rLstOf K vs H Q ∨ rListD vs H Q := fun h => .inl (cs_lstOf H L m ds vs W Q r i h)
  unfold gLst2 at h
  split at h
  · rename_i n
    split at h
    · rename_i ks es z
      obtain ⟨v, e, iv⟩ := isl1 i
      obtain ⟨p, e1, e2⟩ := is_ref iv
      obtain ⟨a', kvs, e3, f1, f2, _⟩ := r.dic z
      rw [e1] at e3
      cases e3
      subst f2
      exact .inr ⟨p, kvs, by rw [e, e2], f1, fun q hq => lst_new r (isl_keys kvs) h hq⟩
    · exact seq h
  · exact seq h
def intsD : List D → Option (List Int)
  | [] => some []
  | .int b :: ds => match intsD ds with
    | some r => some (b :: r)
    | none => none
  | _ :: _ => none
theorem ints_of {L H} : ∀ {ds : List D} {vs : List V} {bs : List Int}, IsL K L H ds vs → intsD ds = some bs → vs = bs.map V.int
  | [], vs, bs, h, e => by
    cases e
    exact h
  | d :: ds, vs, bs, h, e => by
    obtain ⟨v, r, q, a, f⟩ := (show ∃ v r, vs = v :: r ∧ Is K L H d v ∧ IsL K L H ds r by simpa only [IsL] using h)
    cases d with
    | int b =>
      simp only [intsD] at e
      split at e
      · rename_i r' z
        cases e
        rw [q, ints_of f z, show v = .int b from a]
        rfl
      · cases e
    | _ => cases e
def gSum : List D → Mem → Res D := fun xs m => match xs with
  | [.ref n] => (match m[n]? with
    | some (.lst ds) => (match intsD ds with
      | some bs => .ok (.int bs.sum) m
      | none => .bad)
    | _ => .bad)
  | _ => .bad
theorem cs_sum : CallS K mg (rSum K) gSum := by
  intro H L m ds vs W Q r i h
  unfold gSum at h
  split at h
  · rename_i n
    split at h
    · rename_i es z
      split at h
      · rename_i bs q
        obtain ⟨v, e, iv⟩ := isl1 i
        obtain ⟨p, e1, e2⟩ := is_ref iv
        obtain ⟨ws, f1, g1⟩ := r.lst' z e1
        exact ⟨p, bs, by rw [e, e2], by rw [← ints_of g1 q]; exact SqL.of f1, Fin.ok (rel := relV K) h r rfl⟩
      · exact h.elim
    · exact h.elim
  · exact h.elim
end
theorem CallR.or2 {X : Cx} {f : Value} {r r' : List V → Hp → VK → Prop} (h : CallR X f r) (h' : CallR X f r') : CallR X f (fun xs H Q => r xs H Q ∨ r' xs H Q) := by
  intro pins s σ H xs us Q I rx q
  rcases q with q | q
  · exact h pins s σ H xs us Q I rx q
  · exact h' pins s σ H xs us Q I rx q
theorem call_lst2 {X : Cx} (hc : X.calm = true) : CallR X (.type "list") (fun xs H Q => rLstOf X.K xs H Q ∨ rListD xs H Q) := CallR.or2 call_list_of (call_list_dK hc)
theorem bt_sum : bootBuiltins ("sum" : Str) = some (.builtin "sum") := by decide +kernel
theorem u65 {k : Nat} {A : Around} (r : Room k A) : A.units + 65 < cLine := by
  have := r.un
  omega
/-! ### a, b = x, y -/
def sPar (i j : Nat) (fs : Env → Mem → Res (List D)) : Env → Mem → Out := fun ρ m => resS (fs ρ m) ρ fun ds m => match ds with
  | [d, e] => .nx ((ρ.set i (some d)).set j (some e)) m
  | _ => .bad
def sPar3 (i j l : Nat) (fs : Env → Mem → Res (List D)) : Env → Mem → Out := fun ρ m => resS (fs ρ m) ρ fun ds m => match ds with
  | [d, e, f] => .nx (((ρ.set i (some d)).set j (some e)).set l (some f)) m
  | _ => .bad
section
variable {X : Cx} {W : WX} {x y z : Str} {a b c : Expr} {fs : Env → Mem → Res (List D)} {px py pz pt pos : Pos} {kt k2 : Nat} {pt2 : Pos}
theorem m_par (i j : Nat) (hN : X.N.Nodup) (ha : PA X [a, b] (tA X.K X.mg W fs)) (hc : X.calm = true := by rfl) (hi : X.N[i]? = some x := by rfl) (hj : X.N[j]? = some y := by rfl) (hij : i ≠ j := by decide)
    (hx : X.env.scope.names.lookup x = some .local := by rfl) (hy : X.env.scope.names.lookup y = some .local := by rfl)
    (hw : swappedStores [.Tuple [.Name x px, .Name y py] kt pt] (.Tuple [a, b] k2 pt2) X.env = pure (some [x, y]) := by rfl)
    (hs : swapsWithSole [.Tuple [.Name x px, .Name y py] kt pt] (.Tuple [a, b] k2 pt2) pos.line X.env = pure false := by rfl) :
    PS X (.Assign [.Tuple [.Name x px, .Name y py] kt pt] (.Tuple [a, b] k2 pt2) pos) (tS X.K X.mg W (sPar i j fs)) := by
  refine PS.of (ps_par hc hN hi hj hij hx hy ha hw hs) fun D σ H h => ?_
  obtain ⟨L, ρ, m, at0, h⟩ := h
  refine ⟨L, ρ, m, at0, (FinS.bind (rel := relA X.K) at0 h).imp ?_⟩
  rintro vs H1 ⟨ds, m1, L1, k1, r1, i1, h1⟩
  split at h1
  · rename_i d e
    obtain ⟨v, vr, e1, iv, w, wr, e2, iw, e3⟩ := (show ∃ v r, vs = v :: r ∧ Is X.K L1 H1 d v ∧ ∃ v2 r2, r = v2 :: r2 ∧ Is X.K L1 H1 e v2 ∧ IsL X.K L1 H1 [] r2 by simpa only [relA, IsL] using i1)
    exact ⟨v, w, by rw [e1, e2, show wr = [] from e3], h1 _ H1 L1 (Kp.refl H1 L1) (((at0.mono k1 r1).set i iv).set j iw)⟩
  · exact h1.elim
theorem m_par3 (i j l : Nat) (hN : X.N.Nodup) (ha : PA X [a, b, c] (tA X.K X.mg W fs)) (hc : X.calm = true := by rfl) (hi : X.N[i]? = some x := by rfl) (hj : X.N[j]? = some y := by rfl) (hl : X.N[l]? = some z := by rfl) (hij : i ≠ j := by decide) (hil : i ≠ l := by decide) (hjl : j ≠ l := by decide)
    (hx : X.env.scope.names.lookup x = some .local := by rfl) (hy : X.env.scope.names.lookup y = some .local := by rfl) (hz : X.env.scope.names.lookup z = some .local := by rfl)
    (hw : swappedStores [.Tuple [.Name x px, .Name y py, .Name z pz] kt pt] (.Tuple [a, b, c] k2 pt2) X.env = pure (some [x, y, z]) := by rfl)
    (hs : swapsWithSole [.Tuple [.Name x px, .Name y py, .Name z pz] kt pt] (.Tuple [a, b, c] k2 pt2) pos.line X.env = pure false := by rfl) :
    PS X (.Assign [.Tuple [.Name x px, .Name y py, .Name z pz] kt pt] (.Tuple [a, b, c] k2 pt2) pos) (tS X.K X.mg W (sPar3 i j l fs)) := by
  refine PS.of (ps_par3 hc hN hi hj hl hij hil hjl hx hy hz ha hw hs) fun D σ H h => ?_
  obtain ⟨L, ρ, m, at0, h⟩ := h
  refine ⟨L, ρ, m, at0, (FinS.bind (rel := relA X.K) at0 h).imp ?_⟩
  rintro vs H1 ⟨ds, m1, L1, k1, r1, i1, h1⟩
  split at h1
  · rename_i d e f
    obtain ⟨v, vr, e1, iv, w, wr, e2, iw, u, ur, e3, iu, e4⟩ := (show ∃ v r, vs = v :: r ∧ Is X.K L1 H1 d v ∧ ∃ v2 r2, r = v2 :: r2 ∧ Is X.K L1 H1 e v2 ∧ ∃ v3 r3, r2 = v3 :: r3 ∧ Is X.K L1 H1 f v3 ∧ IsL X.K L1 H1 [] r3 by simpa only [relA, IsL] using i1)
    exact ⟨v, w, u, by rw [e1, e2, e3, show ur = [] from e4], h1 _ H1 L1 (Kp.refl H1 L1) ((((at0.mono k1 r1).set i iv).set j iw).set l iu)⟩
  · exact h1.elim
end
end Mn
end
section
set_option Elab.async false
set_option Elab.async false
set_option linter.all false
set_option maxRecDepth 100000
set_option maxHeartbeats 2000000
namespace Mn
open PySem PySem.Spec PyProof.Rows L2
variable [Clo]
/-! ### x * n: texts, tuples, lists, ints -/
def repS (s : Str) (k : Int) : Str := ⟨(List.replicate k.toNat s.cps.toList).flatten.toArray⟩
theorem fold_rep (a : Array Nat) : ∀ (m : Nat) (acc : List Nat), List.foldl (fun x y => x ++ y) acc.toArray (List.replicate m a) = (acc ++ (List.replicate m a.toList).flatten).toArray
  | 0, acc => by simp
  | m + 1, acc => by
    rw [List.replicate_succ, List.foldl_cons, List.replicate_succ, List.flatten_cons, ← List.append_assoc]
    have e : acc.toArray ++ a = (acc ++ a.toList).toArray := by
      apply Array.toList_inj.mp
      simp
    rw [e]
    exact fold_rep a m (acc ++ a.toList)
theorem rep_len (s : Str) (k : Int) : (repS s k).length = s.length * k.toNat := by
  show (List.replicate k.toNat s.cps.toList).flatten.toArray.size = s.cps.size * k.toNat
  rw [List.size_toArray, List.length_flatten, List.map_replicate, List.sum_replicate_nat]
  simp [Nat.mul_comm]
def rRepS : R2 := fun x y H Q => ∃ s k, x = .str s ∧ y = .int k ∧ -(2 ^ 62) ≤ k ∧ k < 2 ^ 62 ∧ s.length * k.toNat ≤ sizeLine ∧ Q (.str (repS s k)) H
theorem op_repS {X : Cx} : OpR X (binaryOp .Mult) rRepS := by
  intro pins s σ H x y v u Q I rx ry h
  obtain ⟨z, k, rfl, rfl, h1, h2, hz, q⟩ := h
  obtain ⟨t, rfl⟩ := rx
  obtain ⟨t', rfl⟩ := ry
  have fin : ∀ (w : Str) (tk tk' : Nat), w = repS z k → EP X pins σ Q (.str w tk) { s with toks := tk' } := fun w tk tk' e => by
    subst e
    exact ⟨.str (repS z k), H, I.tok _, ⟨_, rfl⟩, q⟩
  refine PySem.P.mul_str ?_ ?_ ?_ ?_
  · rw [decide_eq_false (by omega), decide_eq_false (by omega)]
    rfl
  · intro hk hne hgt
    have hz' : z.length * k.toNat ≤ 16777216 := by rw [← sizeLine_eq]; exact hz
    have hk1 : 1 ≤ k := by omega
    obtain ⟨n, rfl⟩ := Int.eq_ofNat_of_zero_le (show 0 ≤ k by omega)
    have e : (Int.ofNat n).toNat = n := rfl
    have hz2 : (z.length : Int) * (n : Int) ≤ 16777216 := by
      rw [← Int.natCast_mul]
      exact Int.ofNat_le.mpr (show z.length * n ≤ 16777216 from hz')
    have hn0 : (0 : Int) < (n : Int) := Int.lt_of_lt_of_le Int.zero_lt_one hk1
    have h3 : (16777216 : Int) ≤ 2 ^ 63 - 1 := by decide
    exact absurd hgt (Int.not_lt.mpr ((Int.le_ediv_iff_mul_le hn0).mpr (Int.le_trans hz2 h3)))
  · intro hk hne
    have hz' : z.length * k.toNat ≤ 16777216 := by rw [← sizeLine_eq]; exact hz
    unfold Builtin.Str.tooLong
    exact decide_eq_false (by rw [sizeLine_eq]; omega)
  · by_cases hk : k < 1
    · rw [if_pos hk]
      refine ⟨by decide, fin _ _ _ ?_⟩
      have e : k.toNat = 0 := by omega
      unfold repS
      rw [e]
      rfl
    · rw [if_neg hk]
      by_cases h0 : (k == 1 || z.length == 0) = true
      · rw [if_pos h0]
        show EP X pins σ Q (.str z t) s
        refine fin z t s.toks ?_
        refine Str.ext' ?_
        apply Array.toList_inj.mp
        unfold repS
        rw [Bool.or_eq_true, beq_iff_eq, beq_iff_eq] at h0
        rcases h0 with h0 | h0
        · subst h0
          simp
        · have e : z.cps.toList = [] := List.eq_nil_of_length_eq_zero h0
          rw [e]
          simp
      · rw [if_neg h0]
        have e : (⟨(List.replicate k.toNat z.cps).foldl (· ++ ·) #[]⟩ : Str) = repS z k := by
          refine Str.ext' ?_
          have := fold_rep z.cps k.toNat []
          rw [List.nil_append] at this
          exact this
        refine ⟨?_, fin _ _ _ e⟩
        rw [e, rep_len]
        exact hz
/-! ### tuple * k for a k below 1: the empty tuple -/
theorem tuple_mulN (l : Addr) (items : Array Value) (n : Nat) (dd : Option Addr) (sl : Array (Option Value)) (x : Int) (u : Tok) (c0 : (decide (x < -(2 ^ 63)) || decide (x ≥ 2 ^ 63)) = false) (c1 : (items.isEmpty || x == 1) = false) (c2 : (decide (x ≤ 0) || items.isEmpty) = true) :
    Meets (Builtin.«tuple.__mul__» ⟨[.ref l, .int x u], []⟩) (fun _ R s => s.heap.get? l = some { cls := .type "tuple", dict := dd, data := .seq items n, slots := sl } ∧
      R (.ok (.ret (Value.ref s.heap.objs.size))) { s with heap := s.heap.push { cls := Value.type "tuple", data := Data.seq #[] }, toks := s.toks }) :=
  .of_wp fun prog w A R s h => by
    obtain ⟨hp, g, d, tk, os⟩ := s
    obtain ⟨hl, h⟩ := h
    have f1 := AutoSeq1.idx_int
    wp_walk using wpAny_loadPart' hl
    repeat (first
      | (refine wpAny_ite_false (decide_eq_false (by rw [c0]; exact Bool.false_ne_true)) ?_; wp_walk using wpAny_loadPart' hl)
      | (refine wpAny_ite_false (decide_eq_false (by rw [c1]; exact Bool.false_ne_true)) ?_; wp_walk using wpAny_loadPart' hl)
      | (refine wpAny_ite_true (decide_eq_true (by rw [c2])) ?_; wp_walk using wpAny_loadPart' hl))
    exact ⟨_, rfl, h⟩
def rRepN (K : PySem.W.Frag) : R2 := fun x y H Q => ∃ l k xs, x = .ref l ∧ y = .int k ∧ SqT K H l xs ∧ xs ≠ [] ∧ k ≤ 0 ∧ -1000 ≤ k ∧ ∀ p, H p = none → Q (.ref p) (upd H p (.tup []))
theorem op_repN {X : Cx} : OpR X (binaryOp .Mult) (rRepN X.K) := by
  intro pins s σ H x y v u Q I rx ry h
  obtain ⟨l, k, xs, rfl, rfl, hT, hne, h1, h2, q⟩ := h
  cases rx
  obtain ⟨t, rfl⟩ := ry
  obtain ⟨its, r, ⟨⟨cls, dd, data, sl⟩, ho, hc, n, hd⟩, hs⟩ := I.tuple hT
  simp only at hc hd
  subst hc hd
  have hle : its.length = xs.length := r.length.symm
  have hn : its ≠ [] := fun e => hne (by
    rw [e] at hle
    exact List.eq_nil_of_length_eq_zero hle.symm)
  have hi : its.toArray.isEmpty = false := by
    cases its with
    | nil => exact absurd rfl hn
    | cons a b => rfl
  have c0 : (decide (k < -(2 ^ 63)) || decide (k ≥ 2 ^ 63)) = false := by
    rw [decide_eq_false (by omega), decide_eq_false (by omega)] <;> rfl
  have c1 : (its.toArray.isEmpty || k == 1) = false := by
    rw [hi, Bool.false_or]
    exact beq_eq_false_iff_ne.mpr (by omega)
  have c2 : (decide (k ≤ 0) || its.toArray.isEmpty) = true := by
    rw [decide_eq_true h1, Bool.true_or]
  refine wpAny_binaryOp_repeat_ref (T := "tuple") (U := "int") (by decide) ⟨_, ho, rfl⟩ (fun s' => typeIs_int s' k t) noFill_tuple_mul F.fills_int_mul F.slot_int_rmul repeat_tuple F.slot_int_index.lookup
    (call_meets F.slot_int_rmul (typeIs_int s k t) F.entry_int_rmul (F.args_int_rmul_2 _ _) (int_rmul_tuple k t l its.toArray n dd sl)
      ⟨ho, rfl, ⟨_, ho, rfl⟩, call_meets F.slot_tuple_mul ⟨_, ho, rfl⟩ F.entry_tuple_mul (F.args_tuple_mul_2 _ _) (tuple_mulN l its.toArray n dd sl k t c0 c1 c2) ⟨ho, ?_⟩⟩)
  refine ⟨.ref s.heap.objs.size, _, I.laid (t' := s.toks) (o := .tup []) (fun b ob q => Heap.get?_push_of_some _ q) (Nat.le_refl _) ?_, rfl, q _ (I.hok.fresh (Nat.le_refl _))⟩
  exact ⟨by rw [sizeLine_eq]; decide, [], .nil, IsTup.new _ _⟩
section
variable {K : PySem.W.Frag} {mg : Str → Option Value}
abbrev rMulA (K : PySem.W.Frag) : R2 := fun x y H Q => (rI CMul fun i j => .int (i * j)) x y H Q ∨ (rRepS x y H Q ∨ ((rRepT K x y H Q ∨ rRepN K x y H Q) ∨ rRep x y H Q))
def gMul2 : D → D → Mem → Res D
  | .int a, .int b, m => gMul (.int a) (.int b) m
  | .str s, .int k, m => if -(2 ^ 62) ≤ k ∧ k < 2 ^ 62 ∧ s.length * k.toNat ≤ 16777216 then .ok (.str (repS s k)) m else .bad
  | .tup ds, .int k, m => if ds ≠ [] ∧ (2 ≤ k ∨ k ≤ 0) ∧ k ≤ 1000 ∧ -1000 ≤ k ∧ ds.length ≤ 1000 then .ok (.tup (List.replicate k.toNat ds).flatten) m else .bad
  | .ref n, .int k, m => match m[n]? with
    | some (.lst ds) => if -(2 ^ 62) ≤ k ∧ k < 2 ^ 62 ∧ ds.length * k.toNat ≤ 16777216 then newL (List.replicate k.toNat ds).flatten m else .bad
    | _ => .bad
  | _, _, _ => .bad
theorem isl_rep {L H} {ds : List D} {vs : List V} (h : IsL K L H ds vs) : ∀ n : Nat, IsL K L H (List.replicate n ds).flatten (List.replicate n vs).flatten
  | 0 => rfl
  | n + 1 => by
    rw [List.replicate_succ, List.replicate_succ, List.flatten_cons, List.flatten_cons]
    exact h.append (isl_rep h n)
theorem os_mul2 : OpS K mg (rMulA K) gMul2 := by
  intro H L m dx dy x y W Q r ix iy h
  cases dy with
  | int k =>
    have ey : y = .int k := iy
    cases dx with
    | int a => exact .inl (os_mul H L m (.int a) (.int k) x y W Q r ix iy h)
    | str s =>
      simp only [gMul2] at h
      by_cases hz : -(2 ^ 62) ≤ k ∧ k < 2 ^ 62 ∧ s.length * k.toNat ≤ 16777216
      · rw [if_pos hz] at h
        exact .inr (.inl ⟨s, k, ix, ey, hz.1, hz.2.1, by rw [sizeLine_eq]; exact hz.2.2, Fin.ok (rel := relV K) h r rfl⟩)
      · rw [if_neg hz] at h
        exact h.elim
    | tup ds =>
      obtain ⟨p, vs, e1, f1, g1⟩ := is_tup ix
      simp only [gMul2] at h
      by_cases hz : ds ≠ [] ∧ (2 ≤ k ∨ k ≤ 0) ∧ k ≤ 1000 ∧ -1000 ≤ k ∧ ds.length ≤ 1000
      · rw [if_pos hz] at h
        have hv : vs ≠ [] := fun z => hz.1 (by
          have l := g1.length
          rw [z] at l
          exact List.eq_nil_of_length_eq_zero l.symm)
        rcases hz.2.1 with h2 | h2
        · exact .inr (.inr (.inl (.inl ⟨p, k, vs, e1, ey, f1.sq, hv, h2, hz.2.2.1, by rw [g1.length]; exact hz.2.2.2.2, fun u hu => tup_new r (isl_rep g1 _) h hu⟩)))
        · refine .inr (.inr (.inl (.inr ⟨p, k, vs, e1, ey, f1.sq, hv, h2, hz.2.2.2.1, fun u hu => ?_⟩)))
          have e0 : k.toNat = 0 := by omega
          rw [e0] at h
          exact tup_new r (isl_rep g1 0) h hu
      · rw [if_neg hz] at h
        exact h.elim
    | ref n =>
      obtain ⟨p, e1, e2⟩ := is_ref ix
      simp only [gMul2] at h
      split at h
      · rename_i ds z
        obtain ⟨vs, f1, g1⟩ := r.lst' z e1
        by_cases hz : -(2 ^ 62) ≤ k ∧ k < 2 ^ 62 ∧ ds.length * k.toNat ≤ 16777216
        · rw [if_pos hz] at h
          exact .inr (.inr (.inr ⟨p, k, vs, e2, ey, f1, by omega, by omega, by rw [g1.length, sizeLine_eq]; exact hz.2.2, fun u hu => lst_new r (isl_rep g1 _) h hu⟩))
        · rw [if_neg hz] at h
          exact h.elim
      · exact h.elim
    | _ => exact (show False from h).elim
  | _ => cases dx <;> exact (show False from h).elim
theorem op_mul2 {X : Cx} : OpR X (binaryOp .Mult) (rMulA X.K) := op_mul.or (op_repS.or ((op_repT.or op_repN).or op_rep))
end
end Mn
end
section
set_option Elab.async false
set_option Elab.async false
set_option linter.all false
set_option maxRecDepth 100000
set_option maxHeartbeats 2000000
namespace Mn
open PySem PySem.Spec PyProof.Rows L2
variable [Clo]
/-! ### {k: v, ..} -/
abbrev Pr := (Env → Mem → Res D) × (Env → Mem → Res D)
def prsD : List Pr → Env → Mem → Res (List (Key × D))
  | [], _, m => .ok [] m
  | (fk, fv) :: r, ρ, m => (fk ρ m).bind fun k m => (fv ρ m).bind fun v m => (prsD r ρ m).bind fun kvs m => (match keyD k with
    | some q => .ok ((q, v) :: kvs) m
    | none => .bad)
def mrgKs : List Key → List (Key × D) → List Key
  | ks, [] => ks
  | ks, (k, _) :: r => mrgKs (putKs ks k) r
def mrgVs : List Key → List D → List (Key × D) → List D
  | _, ds, [] => ds
  | ks, ds, (k, d) :: r => mrgVs (putKs ks k) (putVs ks ds k d) r
def fDisp (prs : List Pr) : Env → Mem → Res D := fun ρ m => (prsD prs ρ (m ++ [.dic [] []])).bind fun kvs m2 => match m2[m.length]? with
  | some (.dic [] []) => if kvs.length ≤ 15 then .ok (.ref m.length) (m2.set m.length (.dic (mrgKs [] kvs) (mrgVs [] [] kvs))) else .bad
  | _ => .bad
/-- pairs of data, pairs of values -/
def PrIs (K : PySem.W.Frag) (L : List Addr) (H : Hp) : List (Key × D) → List (Key × V) → Prop
  | [], ps => ps = []
  | (k, d) :: r, ps => ∃ v q, ps = (k, v) :: q ∧ Is K L H d v ∧ PrIs K L H r q
theorem PrIs.mono {K L H L' H'} (kp : Kp H L H' L') : ∀ {a : List (Key × D)} {b : List (Key × V)}, PrIs K L H a b → PrIs K L' H' a b
  | [], b, h => h
  | (k, d) :: r, b, h => by
    obtain ⟨v, q, e, i, f⟩ := h
    exact ⟨v, q, e, kp.is _ i, PrIs.mono kp f⟩
theorem merge_is {K : PySem.W.Frag} {L : List Addr} {H : Hp} : ∀ {a : List (Key × D)} {b : List (Key × V)} {kvs : List (Key × V)} {ds : List D}, PrIs K L H a b → IsL K L H ds (kvs.map (·.2)) →
    (mergeK kvs b).map (·.1) = mrgKs (kvs.map (·.1)) a ∧ IsL K L H (mrgVs (kvs.map (·.1)) ds a) ((mergeK kvs b).map (·.2))
  | [], b, kvs, ds, h, i => by
    rw [show b = [] from h]
    exact ⟨rfl, i⟩
  | (k, d) :: r, b, kvs, ds, h, i => by
    obtain ⟨v, q, e, iv, f⟩ := h
    subst e
    have pk := putK_is (k := k) iv i
    obtain ⟨q1, q2⟩ := merge_is (kvs := putK kvs k v) f pk.2
    rw [pk.1] at q1 q2
    exact ⟨q1, q2⟩
theorem PrIs.length {K L H} : ∀ {a : List (Key × D)} {b : List (Key × V)}, PrIs K L H a b → b.length = a.length
  | [], b, h => by rw [show b = [] from h]; rfl
  | (k, d) :: r, b, h => by
    obtain ⟨v, q, e, _, f⟩ := h
    rw [e, List.length_cons, List.length_cons, PrIs.length f]
/-- the readings of the pairs, in words of Mn -/
def trsM (K : PySem.W.Frag) (mg : Str → Option Value) (W : WX) (prs : List Pr) : List (TE × TE) := prs.map fun p => (tE K mg W p.1, tE K mg W p.2)
theorem prs_ok {K : PySem.W.Frag} {mg : Str → Option Value} {W : WX} : ∀ {prs : List Pr} {σ : L2.St} {H : Hp} {L : List Addr} {ρ : Env} {m : Mem} {Q : List (V × V) → Hp → Prop} (R : List (Key × V) → Hp → Prop), At K σ H L ρ m →
    (∀ b H', R b H' → Q (b.map fun kv => (kV kv.1, kv.2)) H') → Fin K mg (fun L H a b => PrIs K L H a b) (fun c d H' => W c d σ H') H L (prsD prs ρ m) R → tPairs (trsM K mg W prs) σ H Q
  | [], σ, H, L, ρ, m, Q, R, a, hR, h => by
    have := hR [] H (h [] H L (Kp.refl H L) a.rep rfl)
    exact this
  | (fk, fv) :: r, σ, H, L, ρ, m, Q, R, a, hR, h => by
    show tE K mg W fk σ H fun x H1 => tE K mg W fv σ H1 fun y H2 => tPairs (trsM K mg W r) σ H2 fun ps H3 => Q ((x, y) :: ps) H3
    simp only [prsD] at h
    refine ⟨L, ρ, m, a, (Fin.bind (rel := relV K) h).imp ?_⟩
    rintro x H1 ⟨dk, m1, L1, k1, r1, i1, h1⟩
    have a1 := a.mono k1 r1
    refine ⟨L1, ρ, m1, a1, (Fin.bind (rel := relV K) h1).imp ?_⟩
    rintro y H2 ⟨dv, m2, L2, k2, r2, i2, h2⟩
    have a2 := a1.mono k2 r2
    refine prs_ok (fun b H3 => ∃ (kvs : List (Key × D)) (m3 : Mem) (L3 : List Addr), Kp H2 L2 H3 L3 ∧ Rep K H3 L3 m3 ∧ PrIs K L3 H3 kvs b ∧ Fin K mg (fun L H a b => PrIs K L H a b) (fun c d H' => W c d σ H') H3 L3 (match keyD dk with
      | some q => .ok ((q, dv) :: kvs) m3
      | none => .bad) R) a2 ?_ (Fin.bind (rel := fun L H a b => PrIs K L H a b) h2)
    rintro b H3 ⟨kvs, m3, L3, k3, r3, i3, h3⟩
    cases hk : keyD dk with
    | none => rw [hk] at h3; exact h3.elim
    | some q =>
      rw [hk] at h3
      have ex : x = kV q := key_is hk i1
      subst ex
      have := hR ((q, y) :: b) H3 (h3 _ H3 L3 (Kp.refl _ _) r3 ⟨y, b, rfl, k3.is _ i2, i3⟩)
      exact this
section
variable {X : Cx} {W : WX} {pos : Pos} {keys : List (Option Expr)} {values : List Expr} {prs : List Pr}
theorem m_pnil : PPs X pos [] [] (trsM X.K X.mg W []) := pps_nil
theorem m_pcons {k v : Expr} {ks : List (Option Expr)} {vs : List Expr} {fk fv : Env → Mem → Res D} (hk : PE X k (tE X.K X.mg W fk)) (hv : PE X v (tE X.K X.mg W fv)) (hr : PPs X pos ks vs (trsM X.K X.mg W prs)) :
    PPs X pos (some k :: ks) (v :: vs) (trsM X.K X.mg W ((fk, fv) :: prs)) := pps_cons hk hv hr
theorem m_disp (h : PPs X pos keys values (trsM X.K X.mg W prs)) (hall : keys.all (·.isSome) = true := by rfl) (hl : keys.length = values.length := by rfl) (h0 : keys ≠ [] := by exact fun z => by cases z) (h15 : keys.length ≤ 15 := by decide) :
    PE X (.Dict keys values pos) (tE X.K X.mg W (fDisp prs)) := by
  refine PE.of (pe_disp h hall hl h0 h15) fun σ H Q h => ?_
  obtain ⟨L, ρ, m, a, h⟩ := h
  intro p hp
  have k0 : Kp H L (upd H p (.dK [])) (L ++ [p]) := Kp.newH hp
  have r0 : Rep X.K (upd H p (.dK [])) (L ++ [p]) (m ++ [.dic [] []]) := a.rep.newH hp ⟨[], upd_same, rfl, rfl⟩
  have n0 : (L ++ [p])[m.length]? = some p := by rw [← a.rep.len, List.getElem?_concat_length]
  unfold fDisp at h
  refine prs_ok (fun b H2 => ∃ (kvs : List (Key × D)) (m2 : Mem) (L2 : List Addr), Kp (upd H p (.dK [])) (L ++ [p]) H2 L2 ∧ Rep X.K H2 L2 m2 ∧ PrIs X.K L2 H2 kvs b ∧ Fin X.K X.mg (relV X.K) (fun c d H' => W c d σ H') H2 L2 (match m2[m.length]? with
      | some (.dic [] []) => if kvs.length ≤ 15 then .ok (.ref m.length) (m2.set m.length (.dic (mrgKs [] kvs) (mrgVs [] [] kvs))) else .bad
      | _ => .bad) Q) (a.mono k0 r0) ?_ (Fin.bind (rel := fun L H a b => PrIs X.K L H a b) (h.mono k0))
  rintro b H2 ⟨kvs, m2, L2, k2, r2, i2, h2⟩
  have ep := k2.at n0
  split at h2
  · rename_i z
    obtain ⟨a', kv0, e1, e2, e3, _⟩ := r2.dic z
    rw [ep] at e1
    cases e1
    have e4 : kv0 = [] := List.map_eq_nil_iff.mp e3
    subst e4
    by_cases hz : kvs.length ≤ 15
    · rw [if_pos hz] at h2
      have kp : Kp H2 L2 (upd H2 p (.dK (mergeK [] b))) L2 := Kp.wrO r2 ep e2 (fun ps z => by cases z) (fun φ z => by cases z)
      have mi := merge_is (kvs := []) (ds := []) (i2.mono kp) rfl
      have rp := r2.wrO (o0 := .dK []) (ob := .dic (mrgKs [] kvs) (mrgVs [] [] kvs)) ep kp ⟨mergeK [] b, upd_same, mi.1, mi.2⟩
      refine ⟨e2, b, rfl, by rw [i2.length]; exact hz, h2 _ _ L2 kp rp ?_⟩
      simp only [relV, Is]
      exact ⟨p, ep, rfl⟩
    · rw [if_neg hz] at h2
      exact h2.elim
  · exact h2.elim
end
/-! ### dict(d) -/
section
variable {K : PySem.W.Frag} {mg : Str → Option Value}
def gDict : List D → Mem → Res D := fun xs m => match xs with
  | [.ref n] => (match m[n]? with
    | some (.dic ks ds) => .ok (.ref m.length) (m ++ [.dic ks ds])
    | _ => .bad)
  | _ => .bad
abbrev rDictC : List V → Hp → VK → Prop := fun xs H Q => ∃ (a : Addr) (kvs : List (Key × V)), xs = [.ref a] ∧ Rd H a (.dK kvs) ∧ ∀ p, H p = none → Q (.ref p) (upd H p (.dK kvs))
theorem cs_dict : CallS K mg rDictC gDict := by
  intro H L m ds vs W Q r i h
  unfold gDict at h
  split at h
  · rename_i n
    split at h
    · rename_i ks es z
      obtain ⟨v, e, iv⟩ := isl1 i
      obtain ⟨p, e1, e2⟩ := is_ref iv
      obtain ⟨a', kvs, e3, f1, f2, f3⟩ := r.dic z
      rw [e1] at e3
      cases e3
      refine ⟨p, kvs, by rw [e, e2], .inl f1, fun q hq => ?_⟩
      refine h _ _ (L ++ [q]) (Kp.newH hq) (r.newH hq ⟨kvs, upd_same, f2, (Kp.newH hq).isL _ f3⟩) ?_
      simp only [relV, Is]
      exact ⟨q, by rw [← r.len, List.getElem?_concat_length], rfl⟩
    · exact h.elim
  · exact h.elim
end
end Mn
end
section
set_option Elab.async false
set_option Elab.async false
set_option linter.all false
set_option maxRecDepth 100000
set_option maxHeartbeats 2000000
namespace Mn
open PySem PySem.Spec PyProof.Rows L2
variable [Clo]
/-! ### targets that store into objects -/
abbrev relEnv (K : PySem.W.Frag) : Rel Env L2.St := fun L H ρ σ => σ.length = ρ.length ∧ ∀ (i : Nat) (d : D), ρ[i]? = some (some d) → ∃ v, σ[i]? = some (some v) ∧ Is K L H d v
abbrev XF : XK := fun _ _ _ => False
theorem At.env {K σ H L ρ m} (a : At K σ H L ρ m) : relEnv K L H ρ σ := ⟨a.len, a.sl⟩
theorem At.of {K σ H L ρ m} (r : Rep K H L m) (e : relEnv K L H ρ σ) : At K σ H L ρ m := ⟨r, e.1, e.2⟩
theorem Fin.wk {K mg} {α β : Type} {rel : Rel α β} {W : XK} {H : Hp} {L : List Addr} {r : Res α} {Q : β → Hp → Prop} (h : Fin K mg rel XF H L r Q) : Fin K mg rel W H L r Q := by
  cases r with
  | ok a m => exact h
  | ex e m => exact fun c d H' L' k rp x => (h c d H' L' k rp x).elim
  | bad => exact h
def TgM (K : PySem.W.Frag) (mg : Str → Option Value) (g : TG) (t : D → Env → Mem → Res Env) : Prop :=
  ∀ (d : D) (v : V) (σ : L2.St) (H : Hp) (L : List Addr) (ρ : Env) (m : Mem) (Q : L2.St → Hp → Prop), At K σ H L ρ m → Is K L H d v → Fin K mg (relEnv K) XF H L (t d ρ m) Q → g v σ H Q
def TgsM (K : PySem.W.Frag) (mg : Str → Option Value) (g : TGs) (t : List D → Env → Mem → Res Env) : Prop :=
  ∀ (ds : List D) (vs : List V) (σ : L2.St) (H : Hp) (L : List Addr) (ρ : Env) (m : Mem) (Q : L2.St → Hp → Prop), At K σ H L ρ m → IsL K L H ds vs → Fin K mg (relEnv K) XF H L (t ds ρ m) Q → g vs σ H Q
def hN (i : Nat) : D → Env → Mem → Res Env := fun d ρ m => .ok (ρ.set i (some d)) m
def hNil : List D → Env → Mem → Res Env := fun ds ρ m => match ds with
  | [] => .ok ρ m
  | _ => .bad
def hCons (t : D → Env → Mem → Res Env) (u : List D → Env → Mem → Res Env) : List D → Env → Mem → Res Env := fun ds ρ m => match ds with
  | d :: r => (t d ρ m).bind fun ρ1 m1 => u r ρ1 m1
  | [] => .bad
def hTup (n : Nat) (u : List D → Env → Mem → Res Env) : D → Env → Mem → Res Env := fun d ρ m => match d with
  | .tup ds => if ds.length = n then u ds ρ m else .bad
  | _ => .bad
/-- o[i] = d -/
def storeD (o i d : D) (m : Mem) : Res Unit := match o with
  | .ref n => (match m[n]? with
    | some (.lst ds) => (match i with
      | .int k => (match ixN ds.length k with
        | some j => .ok () (m.set n (.lst (ds.set j d)))
        | none => .bad)
      | _ => .bad)
    | some (.dic ks ds) => (match keyD i with
      | some k => if ks.length < 16777216 then .ok () (m.set n (.dic (putKs ks k) (putVs ks ds k d))) else .bad
      | none => .bad)
    | _ => .bad)
  | _ => .bad
def hSub (fo fi : Env → Mem → Res D) : D → Env → Mem → Res Env := fun d ρ m => (noex (fo ρ m)).bind fun o m => (noex (fi ρ m)).bind fun i m => (storeD o i d m).bind fun _ m => .ok ρ m
abbrev relU : Rel Unit Unit := fun _ _ _ _ => True
section
variable {K : PySem.W.Frag} {mg : Str → Option Value}
theorem th_name (i : Nat) : TgM K mg (gName i) (hN i) := by
  intro d v σ H L ρ m Q a h f
  exact Fin.ok (rel := relEnv K) f a.rep (a.set i h).env
theorem ths_nil : TgsM K mg gNil hNil := by
  intro ds vs σ H L ρ m Q a i f
  cases ds with
  | nil => exact ⟨i, Fin.ok (rel := relEnv K) f a.rep a.env⟩
  | cons d r => exact f.elim
theorem ths_cons {g : TG} {gs : TGs} {t : D → Env → Mem → Res Env} {u : List D → Env → Mem → Res Env} (h1 : TgM K mg g t) (h2 : TgsM K mg gs u) : TgsM K mg (gCons g gs) (hCons t u) := by
  intro ds vs σ H L ρ m Q a i f
  cases ds with
  | nil => exact f.elim
  | cons d r =>
    obtain ⟨v, vr, e1, iv, ir⟩ := (show ∃ v r', vs = v :: r' ∧ Is K L H d v ∧ IsL K L H r r' by simpa only [IsL] using i)
    refine ⟨v, vr, e1, h1 d v σ H L ρ m _ a iv ((Fin.bind (rel := relEnv K) f).imp ?_)⟩
    rintro σ' H' ⟨ρ1, m1, L1, k1, r1, e, f1⟩
    exact h2 r vr σ' H' L1 ρ1 m1 Q (At.of r1 e) (k1.isL _ ir) f1
theorem th_tup {n : Nat} {gs : TGs} {u : List D → Env → Mem → Res Env} (h : TgsM K mg gs u) : TgM K mg (gTup K n gs) (hTup n u) := by
  intro d v σ H L ρ m Q a i f
  cases d with
  | tup ds =>
    obtain ⟨p, vs, e1, f1, g1⟩ := is_tup i
    simp only [hTup] at f
    by_cases hn : ds.length = n
    · rw [if_pos hn] at f
      exact ⟨p, vs, e1, f1.sq, by rw [g1.length]; exact hn, h ds vs σ H L ρ m Q a g1 f⟩
    · rw [if_neg hn] at f
      exact f.elim
  | _ => exact f.elim
theorem store_ok2 {H : Hp} {L : List Addr} {m : Mem} {o i d : D} {ov iv v : V} {Q : Hp → Prop} (r : Rep K H L m) (io : Is K L H o ov) (ii : Is K L H i iv) (id : Is K L H d v) (f : Fin K mg relU XF H L (storeD o i d m) fun _ H' => Q H') :
    rSetL ov iv v H Q ∨ rSetD ov iv v H Q := by
  cases o with
  | ref n =>
    obtain ⟨p, e1, e2⟩ := is_ref io
    simp only [storeD] at f
    split at f
    · rename_i ds z
      obtain ⟨vs, f1, g1⟩ := r.lst' z e1
      cases i with
      | int k =>
        simp only at f
        split at f
        · rename_i j z2
          exact .inl ⟨p, vs, k, j, e2, ii, f1, by rw [g1.length]; exact z2, f () _ L (Kp.wr r e1 f1) (r.wr e1 f1 (g1.set j id)) trivial⟩
        · exact f.elim
      | _ => exact f.elim
    · rename_i ks ds z
      obtain ⟨a', kvs, e3, f1, f2, f3⟩ := r.dic z
      rw [e1] at e3
      cases e3
      subst f2
      split at f
      · rename_i k hk
        by_cases hz : (kvs.map (·.1)).length < 16777216
        · rw [if_pos hz] at f
          rw [List.length_map] at hz
          have kp : Kp H L (upd H p (.dK (putK kvs k v))) L := Kp.wrO r e1 f1 (fun ps z => by cases z) (fun φ z => by cases z)
          have pk := putK_is (k := k) (kp.is _ id) (kp.isL _ f3)
          have rp := r.wrO (o0 := .dK kvs) (ob := .dic (putKs (kvs.map (·.1)) k) (putVs (kvs.map (·.1)) ds k d)) e1 kp ⟨putK kvs k v, upd_same, pk.1, pk.2⟩
          refine .inr ⟨p, _, e2, ?_, f () _ L kp rp trivial⟩
          rw [key_is hk ii]
          exact DPut.k f1 (by rw [sizeLine_eq]; exact hz)
        · rw [if_neg hz] at f
          exact f.elim
      · exact f.elim
    · exact f.elim
  | _ => exact f.elim
theorem th_sub {W : WX} {fo fi : Env → Mem → Res D} : TgM K mg (L2.gSub (tE K mg W fo) (tE K mg W fi) (fun o i v H Q => rSetL o i v H Q ∨ rSetD o i v H Q)) (hSub fo fi) := by
  intro d v σ H L ρ m Q a iv f
  refine ⟨L, ρ, m, a, Fin.wk ((Fin.noex (Fin.bind (rel := relV K) f)).imp ?_)⟩
  rintro ov H1 ⟨od, m1, L1, k1, r1, i1, f1⟩
  have a1 := a.mono k1 r1
  refine ⟨L1, ρ, m1, a1, Fin.wk ((Fin.noex (Fin.bind (rel := relV K) f1)).imp ?_)⟩
  rintro xv H2 ⟨xd, m2, L2, k2, r2, i2, f2⟩
  have a2 := a1.mono k2 r2
  refine store_ok2 r2 (k2.is _ i1) i2 ((k1.trans k2).is _ iv) ((Fin.bind (rel := relU) f2).imp ?_)
  rintro _ H3 ⟨_, m3, L3, k3, r3, _, f3⟩
  exact Fin.ok (rel := relEnv K) f3 r3 (a2.mono k3 r3).env
end
def sAsgM (f : Env → Mem → Res D) (t : D → Env → Mem → Res Env) : Env → Mem → Out := fun ρ m => resS (f ρ m) ρ fun d m => match t d ρ m with
  | .ok ρ' m' => .nx ρ' m'
  | _ => .bad
section
variable {X : Cx} {W : WX} {tg e : Expr} {f : Env → Mem → Res D} {g : TG} {t : D → Env → Mem → Res Env} {pos : Pos}
theorem m_asgM (he : PE X e (tE X.K X.mg W f)) (hg : PG X tg g) (ht : TgM X.K X.mg g t) (hs : swapsWithSole [tg] e pos.line X.env = pure false := by rfl) (hw : swappedStores [tg] e X.env = pure none := by rfl)
    (h1 : (assignEach [tg] X.env).map (·.2) = [assign tg X.env] := by rfl) : PS X (.Assign [tg] e pos) (tS X.K X.mg W (sAsgM f t)) := by
  refine PS.of (ps_asg he hg hs hw h1) fun D σ H h => ?_
  obtain ⟨L, ρ, m, a, h⟩ := h
  refine ⟨L, ρ, m, a, (FinS.bind (rel := relV X.K) a h).imp ?_⟩
  rintro v H1 ⟨d, m1, L1, k1, r1, i1, h1⟩
  refine ht d v σ H1 L1 ρ m1 _ (a.mono k1 r1) i1 ?_
  revert h1
  cases t d ρ m1 with
  | ok ρ' m' => exact fun h1 σ' H' L' k r e => h1 σ' H' L' k (At.of r e)
  | ex e m' => exact fun h1 => h1.elim
  | bad => exact fun h1 => h1
theorem m_gsub {o i : Expr} {fo fi : Env → Mem → Res D} {p2 : Pos} (hu : X.A.units + 1 < cLine) (ho : PE X o (tE X.K X.mg W0 fo)) (hi : PE X i (tE X.K X.mg W0 fi))
    (ha : ∀ v, assign (.Subscript o i p2) X.env v = (do
      let ov ← holding [v] (eval o X.env)
      let iv ← holding [v, ov] (eval i X.env)
      standAt p2
      holding [v, ov, iv] (setItem ov iv v)
      release [v, ov, iv] []) := by intro _; rfl) : PG X (.Subscript o i p2) (L2.gSub (tE X.K X.mg W0 fo) (tE X.K X.mg W0 fi) (fun o i v H Q => rSetL o i v H Q ∨ rSetD o i v H Q)) := pg_sub ho hi (PSet.or set_list (set_dict hu)) ha
end
end Mn
namespace Mn
open PySem
def bodyOf : Stmt → List Stmt
  | .If _ b _ _ => b
  | .For _ _ b _ _ => b
  | .While _ b _ _ => b
  | _ => []
def elseOf : Stmt → List Stmt
  | .If _ _ b _ => b
  | _ => []
def iterOf : Stmt → Expr
  | .For _ e _ _ _ => e
  | _ => .Constant .none 0 ⟨0, 0, 0, 0⟩
end Mn
end
section
set_option Elab.async false
set_option Elab.async false
set_option linter.all false
set_option maxRecDepth 100000
set_option maxHeartbeats 2000000
namespace Mn
open PySem PySem.Spec PyProof.Rows L2
variable [Clo]
/-! ### sorted(texts) -/
theorem lt_irr : ∀ a : List Nat, ltCps a a = false
  | [] => rfl
  | x :: r => by simp [ltCps, lt_irr r]
theorem lt_tr : ∀ {a b c : List Nat}, ltCps a b = true → ltCps b c = true → ltCps a c = true
  | [], [], _, h, _ => by cases h
  | [], _ :: _, [], _, h => by cases h
  | [], _ :: _, _ :: _, _, _ => rfl
  | _ :: _, [], _, h, _ => by cases h
  | _ :: _, _ :: _, [], _, h => by cases h
  | x :: a, y :: b, z :: c, h, g => by
    simp only [ltCps, Bool.or_eq_true, Bool.and_eq_true, decide_eq_true_eq, beq_iff_eq] at h g ⊢
    rcases h with h | ⟨h, h2⟩ <;> rcases g with g | ⟨g, g2⟩
    · exact .inl (by omega)
    · exact .inl (by omega)
    · exact .inl (by omega)
    · exact .inr ⟨by omega, lt_tr h2 g2⟩
theorem lt_tot : ∀ {a b : List Nat}, ltCps a b = false → ltCps b a = false → a = b
  | [], [], _, _ => rfl
  | [], _ :: _, h, _ => by cases h
  | _ :: _, [], _, h => by cases h
  | x :: a, y :: b, h, g => by
    simp only [ltCps, Bool.or_eq_false_iff, Bool.and_eq_false_imp, decide_eq_false_iff_not, beq_iff_eq] at h g
    have e : x = y := by omega
    subst e
    rw [lt_tot (h.2 rfl) (g.2 rfl)]
def leS (a b : Str) : Bool := !ltCps b.cps.toList a.cps.toList
theorem leS_tr (a b c : Str) (h : leS a b = true) (g : leS b c = true) : leS a c = true := by
  unfold leS at h g ⊢
  rw [Bool.not_eq_true'] at h g ⊢
  cases q : ltCps c.cps.toList a.cps.toList with
  | false => rfl
  | true =>
    cases q2 : ltCps a.cps.toList b.cps.toList with
    | true =>
      rw [lt_tr q q2] at g
      cases g
    | false =>
      have e := lt_tot q2 h
      rw [e] at q
      rw [q] at g
      cases g
theorem leS_tot (a b : Str) : (leS a b || leS b a) = true := by
  unfold leS
  cases q : ltCps b.cps.toList a.cps.toList with
  | false => rfl
  | true =>
    cases q2 : ltCps a.cps.toList b.cps.toList with
    | false => rfl
    | true =>
      have := lt_tr q q2
      rw [lt_irr] at this
      cases this
theorem leS_anti {a b : Str} (h : leS a b = true) (g : leS b a = true) : a = b := by
  unfold leS at h g
  rw [Bool.not_eq_true'] at h g
  exact Str.ext' (Array.toList_inj.mp (lt_tot g h))
theorem pair_of_rising : ∀ (p : Str) (l : List Str), risingS p l = true → (p :: l).Pairwise (fun a b => leS a b = true)
  | p, [], _ => by simp
  | p, x :: r, h => by
    have h' : (!ltCps x.cps.toList p.cps.toList && risingS x r) = true := h
    rw [Bool.and_eq_true] at h'
    have ih := pair_of_rising x r h'.2
    refine List.pairwise_cons.mpr ⟨fun y hy => ?_, ih⟩
    rcases List.mem_cons.mp hy with rfl | hy
    · exact h'.1
    · exact leS_tr p x y h'.1 ((List.pairwise_cons.mp ih).1 y hy)
theorem pair_of_sorted : ∀ {l : List Str}, sortedS l = true → l.Pairwise (fun a b => leS a b = true)
  | [], _ => .nil
  | x :: r, h => pair_of_rising x r h
def sortD (xs : List Str) : List Str := xs.mergeSort leS
theorem sort_is {xs ys : List Str} (h : ys.Perm xs) (s : sortedS ys = true) : ys = sortD xs :=
  List.Perm.eq_of_pairwise (fun a b _ _ => leS_anti) (pair_of_sorted s) (List.pairwise_mergeSort leS_tr leS_tot xs) (h.trans (List.mergeSort_perm xs leS).symm)
section
variable {K : PySem.W.Frag} {mg : Str → Option Value}
def gSorted : List D → Mem → Res D := fun xs m => match xs with
  | [.ref n] => (match m[n]? with
    | some (.lst ds) => (match strsD ds with
      | some ss => if ss.length < 64 then newL ((sortD ss).map D.str) m else .bad
      | none => .bad)
    | _ => .bad)
  | _ => .bad
theorem cs_sorted : CallS K mg (rSortedS K) gSorted := by
  intro H L m ds vs W Q r i h
  unfold gSorted at h
  split at h
  · rename_i n
    split at h
    · rename_i es z
      split at h
      · rename_i ss q
        obtain ⟨v, e, iv⟩ := isl1 i
        obtain ⟨p, e1, e2⟩ := is_ref iv
        obtain ⟨ws, f1, g1⟩ := r.lst' z e1
        by_cases hz : ss.length < 64
        · rw [if_pos hz] at h
          refine ⟨p, ss, by rw [e, e2], by rw [← strs_of g1 q]; exact SqL.of f1, hz, fun ys u hp hs hu => ?_⟩
          rw [sort_is hp hs]
          exact lst_new r (isl_strs _) h hu
        · rw [if_neg hz] at h
          exact h.elim
      · exact h.elim
    · exact h.elim
  · exact h.elim
theorem bt_sorted : bootBuiltins ("sorted" : Str) = some (.builtin "sorted") := by decide +kernel
end
end Mn
end
section
set_option Elab.async false
set_option Elab.async false
set_option linter.all false
set_option maxRecDepth 100000
set_option maxHeartbeats 2000000
namespace Mn
open PySem PySem.Spec PyProof.Rows L2
variable [Clo]
/-! ### max(xs), min(xs) of ints; max(i, j), min(i, j); ord -/
def maxL : List Int → Int → Int
  | [], a => a
  | b :: r, a => maxL r (if a < b then b else a)
def minL : List Int → Int → Int
  | [], a => a
  | b :: r, a => minL r (if b < a then b else a)
theorem maxL_is : ∀ (r : List Int) (a : Int), (maxL r a = a ∨ maxL r a ∈ r) ∧ a ≤ maxL r a ∧ ∀ y ∈ r, y ≤ maxL r a
  | [], a => ⟨.inl rfl, Int.le_refl _, fun _ h => absurd h (by simp)⟩
  | b :: r, a => by
    obtain ⟨h1, h2, h3⟩ := maxL_is r (if a < b then b else a)
    simp only [maxL]
    have hA : a ≤ (if a < b then b else a) ∧ b ≤ (if a < b then b else a) := by split <;> omega
    refine ⟨?_, ?_, fun y hy => ?_⟩
    · rcases h1 with h1 | h1
      · rw [h1]
        split
        · exact .inr List.mem_cons_self
        · exact .inl rfl
      · exact .inr (List.mem_cons_of_mem _ h1)
    · exact Int.le_trans hA.1 h2
    · rcases List.mem_cons.mp hy with rfl | hy
      · exact Int.le_trans hA.2 h2
      · exact h3 y hy
theorem minL_is : ∀ (r : List Int) (a : Int), (minL r a = a ∨ minL r a ∈ r) ∧ minL r a ≤ a ∧ ∀ y ∈ r, minL r a ≤ y
  | [], a => ⟨.inl rfl, Int.le_refl _, fun _ h => absurd h (by simp)⟩
  | b :: r, a => by
    obtain ⟨h1, h2, h3⟩ := minL_is r (if b < a then b else a)
    simp only [minL]
    have hA : (if b < a then b else a) ≤ a ∧ (if b < a then b else a) ≤ b := by split <;> omega
    refine ⟨?_, ?_, fun y hy => ?_⟩
    · rcases h1 with h1 | h1
      · rw [h1]
        split
        · exact .inr List.mem_cons_self
        · exact .inl rfl
      · exact .inr (List.mem_cons_of_mem _ h1)
    · exact Int.le_trans h2 hA.1
    · rcases List.mem_cons.mp hy with rfl | hy
      · exact Int.le_trans h2 hA.2
      · exact h3 y hy
section
variable {K : PySem.W.Frag} {mg : Str → Option Value}
def gExt (F : List Int → Int → Int) (G : Int → Int → Int) : List D → Mem → Res D := fun xs m => match xs with
  | [.ref n] => (match m[n]? with
    | some (.lst ds) => (match intsD ds with
      | some (b :: bs) => .ok (.int (F bs b)) m
      | _ => .bad)
    | _ => .bad)
  | [.int i, .int j] => .ok (.int (G i j)) m
  | _ => .bad
def gMax := gExt maxL fun i j => if j > i then j else i
def gMin := gExt minL fun i j => if j < i then j else i
abbrev rMax2 : List V → Hp → VK → Prop := fun xs H Q => ∃ i j, xs = [.int i, .int j] ∧ Q (.int (if j > i then j else i)) H
abbrev rMin2 : List V → Hp → VK → Prop := fun xs H Q => ∃ i j, xs = [.int i, .int j] ∧ Q (.int (if j < i then j else i)) H
theorem isl2 {L H} {d e : D} {vs : List V} (h : IsL K L H [d, e] vs) : ∃ v w, vs = [v, w] ∧ Is K L H d v ∧ Is K L H e w := by
  obtain ⟨v, r, e1, iv, w, r2, e2, iw, e3⟩ := (show ∃ v r, vs = v :: r ∧ Is K L H d v ∧ ∃ w r2, r = w :: r2 ∧ Is K L H e w ∧ IsL K L H [] r2 by simpa only [IsL] using h)
  exact ⟨v, w, by rw [e1, e2, show r2 = [] from e3], iv, iw⟩
theorem cs_max : CallS K mg (fun xs H Q => rMax K xs H Q ∨ rMax2 xs H Q) gMax := by
  intro H L m ds vs W Q r i h
  unfold gMax gExt at h
  split at h
  · rename_i n
    split at h
    · rename_i es z
      split at h
      · rename_i b bs q
        obtain ⟨v, e, iv⟩ := isl1 i
        obtain ⟨p, e1, e2⟩ := is_ref iv
        obtain ⟨ws, f1, g1⟩ := r.lst' z e1
        obtain ⟨h1, h2, h3⟩ := maxL_is bs b
        refine .inl ⟨p, b :: bs, by rw [e, e2], by rw [← ints_of g1 q]; exact SqL.of f1, by simp, fun x hx hle => ?_⟩
        have hm : maxL bs b ∈ b :: bs := by
          rcases h1 with h1 | h1
          · rw [h1]; exact List.mem_cons_self
          · exact List.mem_cons_of_mem _ h1
        have hub : x ≤ maxL bs b := by
          rcases List.mem_cons.mp hx with rfl | hx
          · exact h2
          · exact h3 x hx
        have e5 : x = maxL bs b := Int.le_antisymm hub (hle _ hm)
        rw [e5]
        exact Fin.ok (rel := relV K) h r rfl
      · exact h.elim
    · exact h.elim
  · rename_i a b
    obtain ⟨v, w, e, iv, iw⟩ := isl2 i
    exact .inr ⟨a, b, by rw [e, show v = .int a from iv, show w = .int b from iw], Fin.ok (rel := relV K) h r rfl⟩
  · exact h.elim
theorem cs_min : CallS K mg (fun xs H Q => rMin K xs H Q ∨ rMin2 xs H Q) gMin := by
  intro H L m ds vs W Q r i h
  unfold gMin gExt at h
  split at h
  · rename_i n
    split at h
    · rename_i es z
      split at h
      · rename_i b bs q
        obtain ⟨v, e, iv⟩ := isl1 i
        obtain ⟨p, e1, e2⟩ := is_ref iv
        obtain ⟨ws, f1, g1⟩ := r.lst' z e1
        obtain ⟨h1, h2, h3⟩ := minL_is bs b
        refine .inl ⟨p, b :: bs, by rw [e, e2], by rw [← ints_of g1 q]; exact SqL.of f1, by simp, fun x hx hle => ?_⟩
        have hm : minL bs b ∈ b :: bs := by
          rcases h1 with h1 | h1
          · rw [h1]; exact List.mem_cons_self
          · exact List.mem_cons_of_mem _ h1
        have hub : minL bs b ≤ x := by
          rcases List.mem_cons.mp hx with rfl | hx
          · exact h2
          · exact h3 x hx
        have e5 : x = minL bs b := Int.le_antisymm (hle _ hm) hub
        rw [e5]
        exact Fin.ok (rel := relV K) h r rfl
      · exact h.elim
    · exact h.elim
  · rename_i a b
    obtain ⟨v, w, e, iv, iw⟩ := isl2 i
    exact .inr ⟨a, b, by rw [e, show v = .int a from iv, show w = .int b from iw], Fin.ok (rel := relV K) h r rfl⟩
  · exact h.elim
def gOrd : List D → Mem → Res D := fun xs m => match xs with
  | [.str x] => if x.length = 1 then .ok (.int (x.cps.getD 0 0 : Nat)) m else .bad
  | _ => .bad
theorem cs_ord : CallS K mg (fun xs H Q => ∃ x, xs = [.str x] ∧ x.length = 1 ∧ Q (.int (x.cps.getD 0 0 : Nat)) H) gOrd := by
  intro H L m ds vs W Q r i h
  unfold gOrd at h
  split at h
  · rename_i x
    obtain ⟨v, e, iv⟩ := isl1 i
    by_cases hz : x.length = 1
    · rw [if_pos hz] at h
      exact ⟨x, by rw [e, show v = .str x from iv], hz, Fin.ok (rel := relV K) h r rfl⟩
    · rw [if_neg hz] at h
      exact h.elim
  · exact h.elim
theorem bt_max : bootBuiltins ("max" : Str) = some (.builtin "max") := by decide +kernel
theorem bt_min : bootBuiltins ("min" : Str) = some (.builtin "min") := by decide +kernel
theorem bt_ord : bootBuiltins ("ord" : Str) = some (.builtin "ord") := by decide +kernel
end
theorem call_maxA {X : Cx} (hc : X.calm = true) : CallR X (.builtin "max") (fun xs H Q => rMax X.K xs H Q ∨ rMax2 xs H Q) := CallR.or2 (cr_max hc) (call_max2 hc)
theorem call_minA {X : Cx} (hc : X.calm = true) : CallR X (.builtin "min") (fun xs H Q => rMin X.K xs H Q ∨ rMin2 xs H Q) := CallR.or2 (cr_min hc) (call_min2 hc)
end Mn
end
section
set_option Elab.async false
set_option Elab.async false
set_option linter.all false
set_option maxRecDepth 100000
set_option maxHeartbeats 2000000
namespace Mn
open PySem PySem.Spec PyProof.Rows L2
/-! ### enumerate(v) of one argument, v a list or a tuple -/
theorem meets_enum1B {v : Value} {o : PySem.Obj} {H : Heap → Prop} (B : Begins v o H) :
    Meets (Builtin.«enumerate.__new__» ⟨[.type "enumerate", v], []⟩) (fun _ R s => H s.heap ∧
      R (.ok (.ret (.ref (s.heap.push o).objs.size))) { s with heap := (s.heap.push o).push { cls := .type "enumerate", data := .fields #[.none, .bool false, .ref s.heap.objs.size, rawInt 0, .none, .none] } }) :=
  .of_wp fun prog w A R s h => by
    obtain ⟨hp, g, d, tk, os⟩ := s; obtain ⟨h1, h⟩ := h
    have hsub := sub_enumerate
    have q1 : ∀ {A' : Around} {E : Value → Shared → Prop} {Q : Value → Shared → Prop}, Q (.ref hp.objs.size) ⟨hp.push o, g, d, tk, os⟩ → wpAny (model prog w) A' (pyIter v) Q E ⟨hp, g, d, tk, os⟩ :=
      fun q => B.iter prog w _ _ ⟨hp, g, d, tk, os⟩ _ h1 q
    wp_walk using q1
    refine wpAny_stack_any fun st => wpAny_pure ?_
    split
    · rename_i c _ _ _ _ _
      cases (c == Value.type "enumerate")
      · wp_walk using q1
        exact ⟨_, rfl, h⟩
      · wp_walk using q1
        exact ⟨_, rfl, h⟩
    · wp_walk using q1
      exact ⟨_, rfl, h⟩
section
variable {prog : Program} {w : World} {A : Around} {E : Value → Shared → Prop} {s : Shared}
theorem enum1_begins {v : Value} {o : PySem.Obj} {H : Heap → Prop} {Q : Value → Shared → Prop} (B : Begins v o H) (h1 : H s.heap)
    (h : ∀ h', IsEnum h' (s.heap.objs.size + 1) s.heap.objs.size 0 .none → h'.get? s.heap.objs.size = some o → h'.objs.size = s.heap.objs.size + 2 →
      (∀ b o, s.heap.get? b = some o → h'.get? b = some o) → Q (.ref (s.heap.objs.size + 1)) { s with heap := h' }) :
    wpAny (model prog w) A (call (.type "enumerate") [v]) Q E s := by
  refine callType_new F.called_enumerate (by decide) (F.typeCall_enumerate_1 _) (F.newCall_enumerate_1 _) (fun obj => F.args_object_init_2 obj _) F.entry_enumerate_new
    (meets_enum1B B) ⟨h1, ?_⟩
  have hz : (s.heap.push o).objs.size = s.heap.objs.size + 1 := Heap.size_push ..
  show _ ∧ _
  rw [hz]
  have he : IsEnum ((s.heap.push o).push { cls := .type "enumerate", data := .fields #[.none, .bool false, .ref s.heap.objs.size, rawInt 0, .none, .none] }) (s.heap.objs.size + 1) s.heap.objs.size 0 .none := by
    have := Heap.get?_push_size (s.heap.push o) (o := { cls := .type "enumerate", data := .fields #[.none, .bool false, .ref s.heap.objs.size, rawInt 0, .none, .none] }) rfl
    rw [hz] at this; exact this
  refine ⟨⟨_, he, rfl⟩, h _ he (Heap.get?_push_of_some _ (Heap.get?_push_size _ B.free)) (by rw [Heap.size_push, hz]) fun b o x => Heap.get?_push_of_some _ (Heap.get?_push_of_some _ x)⟩
end
/-- the tuple at a, each item in a new pair -/
def IteT (K : PySem.W.Frag) (a : Addr) : It :=
  ⟨fun i H => ∃ (xs : List V) (x : V), SqT K H a xs ∧ xs[i]? = some x, fun i H v H' => ∃ T x, v = .ref T ∧ H T = none ∧ H' = upd H T (.tup [.int (i : Nat), x]) ∧ ∀ xs, SqT K H a xs → xs[i]? = some x, fun i H => ∃ xs : List V, SqT K H a xs ∧ xs.length = i⟩
theorem turn_enumT {P : Program} {w : World} {K : PySem.W.Frag} {elts : List Expr} {kk : Nat} {tpos : Pos} (a e it : Addr) :
    Turn P w K (.Tuple elts kk tpos) (IteT K a) [e, it] e (fun i h => (∃ old, IsEnum h e it ((i : Nat) : Int) old) ∧ h.IsTupleIter it a i ∧ e ≠ it) where
  mem := by simp
  obj := fun i h st b hb => by
    obtain ⟨⟨old, he⟩, ⟨o, ho, hc, hd⟩, _⟩ := st
    have e' : b = e ∨ b = it := by simpa using hb
    rcases e' with z | z
    · rw [z]; exact ⟨_, he, fun v q => nomatch q⟩
    · rw [z]; exact ⟨o, ho, fun v q => by rw [hd] at q; cases q⟩
  keep := fun i h h' st k => let ⟨⟨old, he⟩, hi, hne⟩ := st; ⟨⟨old, k e (by simp) _ he⟩, hi.at fun o q => k it (by simp) o q, hne⟩
  item := by
    intro X hP hw hK hc i pins s σ H E I hf st hg
    subst hP hw hK
    obtain ⟨⟨old, he⟩, hit, hne⟩ := st
    obtain ⟨xs, x, hq, hx⟩ := hg
    obtain ⟨its, rv, p, hz⟩ := I.tuple hq
    obtain ⟨u, hu, ru⟩ := rv.get hx
    have hel : e < s.heap.objs.size := Heap.lt_size he
    have hil : it < s.heap.objs.size := by obtain ⟨_, q, _⟩ := hit; exact Heap.lt_size q
    have pt : s.heap.IsTuple a its.toArray := p
    have hea : e ≠ a := by
      rintro rfl
      obtain ⟨o, ho, hcc, _⟩ := pt
      have z := ho.symm.trans he
      cases z
      exact absurd (Value.type.inj hcc) (by decide)
    have hia : a ≠ it := by
      rintro rfl
      obtain ⟨o, ho, hcc, _⟩ := pt
      obtain ⟨o2, ho2, hc2, _⟩ := hit
      rw [ho] at ho2
      cases ho2
      rw [hcc] at hc2
      exact absurd (Value.type.inj hc2) (by decide)
    have hh : X.A.in1.handled = none := I.ok.hd hc
    have D := Draws.tuple (prog := X.prog) (w := X.w) (A := X.A.in1) hh it a hia its.toArray
    have hi : i < its.toArray.size := by
      obtain ⟨z, _⟩ := List.getElem?_eq_some_iff.mp hu
      simpa using z
    refine wpAny_pyNext_enum_itemD D he ⟨hit, pt⟩ hi hne (by simp [hea, hne]) fun y h' tk hP ho hst' hT hsz hk => ?_
    have ey : y = u := by
      have z : its[i]? = some y := by simpa using hP
      rw [hu] at z
      exact (Option.some.inj z).symm
    subst ey
    obtain ⟨hit', _⟩ := hst'
    refine ⟨_, rfl, wpAny_letOwnedTupleGo_enum (s := { s with heap := h', toks := tk + 1 }) ho fun h'' he' sb => ?_⟩
    have hT2 : h''.get? s.heap.objs.size = some { cls := .type "tuple", data := .seq #[.int i tk, y] } := (sb.2 _ (Nat.ne_of_gt hel)).trans hT
    have new : ObjOk X.prog X.w (upd H s.heap.objs.size (.tup [.int (i : Nat), x])) h'' s.heap.objs.size (.tup [.int (i : Nat), x]) :=
      ⟨by show 2 ≤ sizeLine; decide, [.int i tk, y], .cons ⟨_, rfl⟩ (.cons ru .nil), ⟨_, hT2, rfl, _, rfl⟩⟩
    have I1 : Inv X pins σ (upd H s.heap.objs.size (.tup [.int (i : Nat), x])) { s with heap := h'', toks := tk + 1 } :=
      I.turnedNew (ch := [e, it]) (fun b ob hb q => (sb.2 b (fun z => hb (by simp [z]))).trans (hk b ob (fun z => hb (by simp [z])) (fun z => hb (by simp [z])) q)) hf (Nat.le_refl _) new
    refine ⟨.ref s.heap.objs.size, _, I1, rfl, ⟨_, x, rfl, I.hok.fresh (Nat.le_refl _), rfl, fun ys hy => by rw [I.tuple_inj hy hq]; exact hx⟩, ⟨⟨y, ?_⟩, hit'.at fun o q => (sb.2 it (Ne.symm hne)).trans q, hne⟩, fun b hb => ?_⟩
    · have e1 : ((i + 1 : Nat) : Int) = (i : Int) + 1 := by omega
      rw [e1]; exact he'
    · have hb' : b < s.heap.objs.size := by
        have e' : b = e ∨ b = it := by simpa using hb
        rcases e' with z | z
        · rw [z]; exact hel
        · rw [z]; exact hil
      rw [upd_ne (Nat.ne_of_lt hb')]
      exact (hf b hb).1
  done := by
    intro X hP hw hK hc i pins s σ H E I hf st hg
    subst hP hw hK
    obtain ⟨⟨old, he⟩, hit, hne⟩ := st
    obtain ⟨xs, hq, hx⟩ := hg
    obtain ⟨its, rv, p, hz⟩ := I.tuple hq
    have pt : s.heap.IsTuple a its.toArray := p
    have hia : a ≠ it := by
      rintro rfl
      obtain ⟨o, ho, hcc, _⟩ := pt
      obtain ⟨o2, ho2, hc2, _⟩ := hit
      rw [ho] at ho2
      cases ho2
      rw [hcc] at hc2
      exact absurd (Value.type.inj hc2) (by decide)
    have hh : X.A.in1.handled = none := I.ok.hd hc
    have D := Draws.tuple (prog := X.prog) (w := X.w) (A := X.A.in1) hh it a hia its.toArray
    obtain ⟨f0, f1, f2, f3, f4, f5⟩ := hf it (by simp)
    have hl := rv.length
    have hi : i = its.toArray.size := by simp; omega
    subst hi
    exact wpAny_pyNext_enum_endD D he ⟨hit, pt⟩ fun h' eb => ⟨rfl, I.turned (t' := s.toks) (fun b o hb q => eb b o hb q) f0 f1 f3 f4 f5⟩
  self := fun A i s Q E st h => let ⟨⟨_, he⟩, _⟩ := st; wpAny_pyIter_enum he h
def iEnumA (K : PySem.W.Frag) (ta : TA) : TI := fun σ H R => ta σ H fun vs H1 => ∃ a xs, vs = [.ref a] ∧ ((SqL K H1 a xs ∧ R (Ite K a) H1) ∨ (SqT K H1 a xs ∧ R (IteT K a) H1))
theorem pi_enumA {X : Cx} {e : Expr} {ta : TA} {p pos tpos : Pos} {elts : List Expr} {kk : Nat} (hg : Gl X "enumerate") (hm : X.mg "enumerate" = none) (ha : PA X [e] ta) (hs : starEach [e] X.env = [(false, eval e X.env)] := by rfl) :
    PI X (.Tuple elts kk tpos) (.Call (.Name "enumerate" p) [e] [] pos) (iEnumA X.K ta) := by
  refine ⟨fun pins s σ H R I h => ?_⟩
  refine Call_ (ld_blt I hg hm boot_enumerate (PyProof.Rows.callWith_type1 (thn (ha.run pos pins s σ H _ I h) fun us s1 ⟨vs, H1, I1, r1, q1⟩ => ?_) hs rfl))
  obtain ⟨a, xs, ex, q1⟩ := q1
  subst ex
  cases r1 with
  | cons r rr =>
    cases rr
    cases r
    have fp2 : ∀ b, b ∈ [s1.heap.objs.size + 1, s1.heap.objs.size] → FpOk X pins H1 b := fun b hb => by
      have e' : b = s1.heap.objs.size + 1 ∨ b = s1.heap.objs.size := by simpa using hb
      have hle : s1.heap.objs.size ≤ b := by
        rcases e' with z | z
        · rw [z]; exact Nat.le_add_right _ _
        · rw [z]; exact Nat.le_refl _
      exact I1.fpOk hle (I1.hok.fresh hle)
    rcases q1 with ⟨hq, q⟩ | ⟨hq, q⟩
    · obtain ⟨its, rv, p', hz⟩ := I1.list hq
      refine call_enumerate_list p'.isList fun h' he hit hsz hk => wpAny_pyIter_enum he ?_
      have I2 : Inv X pins σ H1 { s1 with heap := h' } := I1.kept (t' := s1.toks) hk
      exact ⟨s1.heap.objs.size + 1, [s1.heap.objs.size + 1, s1.heap.objs.size], _, _, H1, rfl, I2, turn_enum a (s1.heap.objs.size + 1) s1.heap.objs.size, ⟨⟨.none, he⟩, hit, Nat.succ_ne_self _⟩, fp2, q⟩
    · obtain ⟨its, rv, p', hz⟩ := I1.tuple hq
      have pt : s1.heap.IsTuple a its.toArray := p'
      refine enum1_begins (begins_tuple a its.toArray) pt fun h' he hit hsz hk => wpAny_pyIter_enum he ?_
      have I2 : Inv X pins σ H1 { s1 with heap := h' } := I1.kept (t' := s1.toks) hk
      exact ⟨s1.heap.objs.size + 1, [s1.heap.objs.size + 1, s1.heap.objs.size], _, _, H1, rfl, I2, turn_enumT a (s1.heap.objs.size + 1) s1.heap.objs.size, ⟨⟨.none, he⟩, ⟨_, hit, rfl, rfl⟩, Nat.succ_ne_self _⟩, fp2, q⟩
end Mn
end
section
set_option Elab.async false
set_option Elab.async false
set_option linter.all false
set_option maxRecDepth 100000
set_option maxHeartbeats 2000000
namespace Mn
open PySem PySem.Spec PyProof.Rows L2
variable [Clo]
/-! ### lists, tuples, texts walked -/
def strD (s : Str) : List D := s.cps.toList.map fun c => D.str ⟨#[c]⟩
def srcD2 : D → Mem → Option Src
  | .str s, _ => some (strD s, fun _ => true)
  | d, m => srcD d m
def iSeq2 (K : PySem.W.Frag) (tl : TE) : TI := fun σ H R => tl σ H fun x H1 => (∃ a, x = .ref a ∧ (∃ xs, SqL K H1 a xs) ∧ R (Itl K a) H1) ∨ (∃ a, x = .ref a ∧ (∃ xs, SqT K H1 a xs) ∧ R (Itt K a) H1) ∨ ∃ z, x = .str z ∧ R (Its z) H1
theorem pi_seq2 {X : Cx} {tg l : Expr} {tl : TE} (hl : PE X l tl) : PI X tg l (iSeq2 X.K tl) := by
  refine ⟨fun pins s σ H R I h => ?_⟩
  refine thn (hl.run pins s σ H _ I h) fun v s1 ⟨x, H1, I1, r1, q1⟩ => ?_
  rcases q1 with ⟨a, e, ⟨xs, hq⟩, q⟩ | ⟨a, e, ⟨xs, hq⟩, q⟩ | ⟨z, e, q⟩
  · subst e
    cases r1
    obtain ⟨its, rv, p, hz⟩ := I1.list hq
    refine wpAny_pyIter_list p.isList ?_
    refine ⟨s1.heap.objs.size, [s1.heap.objs.size], _, _, H1, rfl, I1.kept (t' := s1.toks) fun b o e => Heap.get?_push_of_some _ e, turn_list a _, ⟨_, Heap.get?_push_size _ rfl, rfl, rfl⟩, fun b hb => ?_, q⟩
    have e : b = s1.heap.objs.size := by simpa using hb
    subst e
    exact I1.fpOk (Nat.le_refl _) (I1.hok.fresh (Nat.le_refl _))
  · subst e
    cases r1
    obtain ⟨its, rv, p, hz⟩ := I1.tuple hq
    refine wpAny_pyIter_tuple (show s1.heap.IsTuple a its.toArray from p) ?_
    refine ⟨s1.heap.objs.size, [s1.heap.objs.size], _, _, H1, rfl, I1.kept (t' := s1.toks) fun b o e => Heap.get?_push_of_some _ e, turn_tuple a _, ⟨_, Heap.get?_push_size _ rfl, rfl, rfl⟩, fun b hb => ?_, q⟩
    have e : b = s1.heap.objs.size := by simpa using hb
    subst e
    exact I1.fpOk (Nat.le_refl _) (I1.hok.fresh (Nat.le_refl _))
  · subst e
    obtain ⟨t, rfl⟩ := r1
    cases ha : z.cps.all (· < 128)
    · exact wpAny_pyIter_wide ha (pi_one (tk := s1.toks) I1 _ (turn_str _ z t "str_iterator" (.inr rfl)) ⟨_, Heap.get?_push_size _ rfl, rfl, rfl⟩ q)
    · exact wpAny_pyIter_ascii ha (pi_one (tk := s1.toks) I1 _ (turn_str _ z t "str_ascii_iterator" (.inl rfl)) ⟨_, Heap.get?_push_size _ rfl, rfl, rfl⟩ q)
def fSeq2 (f : Env → Mem → Res D) : Env → Mem → Res Src := fun ρ m => (f ρ m).bind fun d m => match srcD2 d m with
  | none => .bad
  | some s => .ok s m
theorem strD_len (z : Str) : (strD z).length = z.cps.size := by unfold strD; simp
theorem walk_s {K : PySem.W.Frag} {z : Str} {still : Mem → Bool} {H0 L0} : Walk K (Its z) (strD z) still H0 L0 := by
  refine ⟨fun H L m kp r s => ⟨fun i hi => ?_, ?_⟩⟩
  · rw [strD_len] at hi
    refine ⟨hi, fun x H' y => ?_⟩
    obtain ⟨e1, c, e2, e3⟩ := y
    subst e1
    refine ⟨Kp.refl _ _, r, .str ⟨#[c]⟩, ?_, e3⟩
    unfold strD
    rw [List.getElem?_map]
    have : z.cps.toList[i]? = some c := by simpa using e2
    rw [this]
    rfl
  · rw [strD_len]
    exact Nat.le_refl _
theorem wi_seq2 {K : PySem.W.Frag} {mg : Str → Option Value} {W : WX} {f : Env → Mem → Res D} : WalkI K mg W (iSeq2 K (tE K mg W f)) (fSeq2 f) := by
  intro σ H R L ρ m a h
  refine ⟨L, ρ, m, a, (Fin.bind h).imp ?_⟩
  rintro x H1 ⟨d, m1, L1, k1, r1, i1, h1⟩
  cases e : srcD2 d m1 with
  | none =>
    simp only [e] at h1
    exact h1.elim
  | some s =>
    simp only [e] at h1
    have q : ∀ J, Walk K J s.1 s.2 H1 L1 → R J H1 := fun J w => Fin.ok (rel := relJ K) h1 r1 w
    cases d with
    | str z =>
      cases e
      exact .inr (.inr ⟨z, i1, q _ walk_s⟩)
    | tup ds =>
      obtain ⟨a, vs, e1, f1, g1⟩ := (show ∃ a vs, x = .ref a ∧ FzT K L1 H1 a vs ∧ IsL K L1 H1 ds vs by simpa only [Is] using i1)
      cases e
      exact .inr (.inl ⟨a, e1, ⟨vs, f1.sq⟩, q _ (walk_t fun H L m k r s => ⟨vs, (k.fzT f1).sq, k.isL _ g1⟩)⟩)
    | rol ds =>
      obtain ⟨a, vs, e1, f1, g1⟩ := (show ∃ a vs, x = .ref a ∧ FzL K L1 H1 a vs ∧ IsL K L1 H1 ds vs by simpa only [Is] using i1)
      cases e
      exact .inl ⟨a, e1, ⟨vs, f1.sq⟩, q _ (walk_l fun H L m k r s => ⟨vs, (k.fzL f1).sq, k.isL _ g1⟩)⟩
    | ref n =>
      obtain ⟨a, e1, e2⟩ := (show ∃ a, L1[n]? = some a ∧ x = .ref a by simpa only [Is] using i1)
      simp only [srcD2, srcD] at e
      cases z : m1[n]? with
      | none =>
        simp only [z] at e
        cases e
      | some o =>
        cases o with
        | lst ds =>
          simp only [z] at e
          cases e
          obtain ⟨a', vs, e3, e4, e5⟩ := r1.lst z
          rw [e1] at e3
          cases e3
          refine .inl ⟨a, e2, ⟨vs, SqL.of e4⟩, q _ (walk_l fun H L m k r s => ?_)⟩
          obtain ⟨a', ws, e6, e7, e8⟩ := r.lst (of_decide_eq_true s)
          rw [k.at e1] at e6
          cases e6
          exact ⟨ws, SqL.of e7, e8⟩
        | dic ks ds =>
          simp only [z] at e
          cases e
    | _ => cases e
/-! ### enumerate -/
def enumD : Nat → List D → List D
  | _, [] => []
  | k, d :: r => .tup [.int (k : Nat), d] :: enumD (k + 1) r
theorem enumD_get : ∀ (ds : List D) (k i : Nat), (enumD k ds)[i]? = (ds[i]?).map fun d => D.tup [.int ((k + i : Nat) : Int), d]
  | [], k, i => by simp [enumD]
  | d :: r, k, 0 => by simp [enumD]
  | d :: r, k, i + 1 => by
    have e : k + 1 + i = k + (i + 1) := by omega
    simp only [enumD, List.getElem?_cons_succ]
    rw [enumD_get r (k + 1) i, e]
theorem enumD_len : ∀ (ds : List D) (k : Nat), (enumD k ds).length = ds.length
  | [], k => rfl
  | d :: r, k => by simp [enumD, enumD_len r]
def srcE : List D → Mem → Option Src := fun xs m => match xs with
  | [.tup ds] => some (enumD 0 ds, fun _ => true)
  | [.rol ds] => some (enumD 0 ds, fun _ => true)
  | [.ref n] => (match m[n]? with
    | some (.lst ds) => some (enumD 0 ds, fun m' => decide (m'[n]? = some (.lst ds)))
    | _ => none)
  | _ => none
def fEnum (fs : Env → Mem → Res (List D)) : Env → Mem → Res Src := fun ρ m => (fs ρ m).bind fun ds m => match srcE ds m with
  | none => .bad
  | some s => .ok s m
theorem pair_new {K : PySem.W.Frag} {H : Hp} {L : List Addr} {m : Mem} {T : Addr} {i : Nat} {d : D} {v : V} (r : Rep K H L m) (hT : H T = none) (h : Is K L H d v) :
    Kp H L (upd H T (.tup [.int (i : Nat), v])) L ∧ Rep K (upd H T (.tup [.int (i : Nat), v])) L m ∧ Is K L (upd H T (.tup [.int (i : Nat), v])) (.tup [.int (i : Nat), d]) (.ref T) := by
  refine ⟨Kp.new_ hT, r.new_ hT, ?_⟩
  simp only [Is, IsL]
  refine ⟨T, _, rfl, .inl ⟨.inl upd_same, fun z => ?_⟩, .int (i : Nat), _, rfl, rfl, v, [], rfl, (Kp.new_ hT).is _ h, rfl⟩
  obtain ⟨u, hu⟩ := r.tracked z
  rw [hT] at hu
  cases hu
theorem walk_eT {K : PySem.W.Frag} {a : Addr} {ds : List D} {still : Mem → Bool} {H0 L0} (h : ∀ H L m, Kp H0 L0 H L → Rep K H L m → still m = true → ∃ vs, SqT K H a vs ∧ IsL K L H ds vs) : Walk K (IteT K a) (enumD 0 ds) still H0 L0 := by
  refine ⟨fun H L m kp r s => ?_⟩
  obtain ⟨vs, h1, h2⟩ := h H L m kp r s
  refine ⟨fun i hi => ?_, ⟨vs, h1, by rw [h2.length, enumD_len]⟩⟩
  rw [enumD_len] at hi
  obtain ⟨v, e1, e2⟩ := h2.get (List.getElem?_eq_getElem hi)
  refine ⟨⟨vs, v, h1, e1⟩, fun x H' y => ?_⟩
  obtain ⟨T, x', ex, hT, eH, hx⟩ := y
  subst ex eH
  have := hx vs h1
  rw [e1] at this
  cases this
  obtain ⟨q1, q2, q3⟩ := pair_new (i := i) r hT e2
  refine ⟨q1, q2, _, ?_, q3⟩
  rw [enumD_get, List.getElem?_eq_getElem hi]
  simp
theorem walk_eL {K : PySem.W.Frag} {a : Addr} {ds : List D} {still : Mem → Bool} {H0 L0} (h : ∀ H L m, Kp H0 L0 H L → Rep K H L m → still m = true → ∃ vs, SqL K H a vs ∧ IsL K L H ds vs) : Walk K (Ite K a) (enumD 0 ds) still H0 L0 := by
  refine ⟨fun H L m kp r s => ?_⟩
  obtain ⟨vs, h1, h2⟩ := h H L m kp r s
  refine ⟨fun i hi => ?_, ⟨vs, h1, by rw [h2.length, enumD_len]; exact Nat.le_refl _⟩⟩
  rw [enumD_len] at hi
  obtain ⟨v, e1, e2⟩ := h2.get (List.getElem?_eq_getElem hi)
  refine ⟨⟨vs, v, h1, e1⟩, fun x H' y => ?_⟩
  obtain ⟨T, x', ex, hT, eH, hx⟩ := y
  subst ex eH
  have := hx vs h1
  rw [e1] at this
  cases this
  obtain ⟨q1, q2, q3⟩ := pair_new (i := i) r hT e2
  refine ⟨q1, q2, _, ?_, q3⟩
  rw [enumD_get, List.getElem?_eq_getElem hi]
  simp
theorem wi_enum {K : PySem.W.Frag} {mg : Str → Option Value} {W : WX} {fs : Env → Mem → Res (List D)} : WalkI K mg W (iEnumA K (tA K mg W fs)) (fEnum fs) := by
  intro σ H R L ρ m a h
  refine ⟨L, ρ, m, a, (Fin.bind (rel := relA K) h).imp ?_⟩
  rintro xs H1 ⟨ds, m1, L1, k1, r1, i1, h1⟩
  cases e : srcE ds m1 with
  | none =>
    simp only [e] at h1
    exact h1.elim
  | some s =>
    simp only [e] at h1
    have q : ∀ J, Walk K J s.1 s.2 H1 L1 → R J H1 := fun J w => Fin.ok (rel := relJ K) h1 r1 w
    unfold srcE at e
    split at e
    · rename_i es
      obtain ⟨v, ev, iv⟩ := isl1 i1
      obtain ⟨p, vs, e1, f1, g1⟩ := is_tup iv
      cases e
      exact ⟨p, vs, by rw [ev, e1], .inr ⟨f1.sq, q _ (walk_eT fun H L m k r s => ⟨vs, (k.fzT f1).sq, k.isL _ g1⟩)⟩⟩
    · rename_i es
      obtain ⟨v, ev, iv⟩ := isl1 i1
      obtain ⟨p, vs, e1, f1, g1⟩ := is_rol iv
      cases e
      exact ⟨p, vs, by rw [ev, e1], .inl ⟨f1.sq, q _ (walk_eL fun H L m k r s => ⟨vs, (k.fzL f1).sq, k.isL _ g1⟩)⟩⟩
    · rename_i n
      obtain ⟨v, ev, iv⟩ := isl1 i1
      obtain ⟨p, e1, e2⟩ := is_ref iv
      split at e
      · rename_i es z
        cases e
        obtain ⟨vs, f1, g1⟩ := r1.lst' z e1
        refine ⟨p, vs, by rw [ev, e2], .inl ⟨SqL.of f1, q _ (walk_eL fun H L m k r s => ?_)⟩⟩
        obtain ⟨ws, f2, g2⟩ := r.lst' (of_decide_eq_true s) (k.at e1)
        exact ⟨ws, SqL.of f2, g2⟩
      · cases e
    · cases e
/-! ### targets of comprehensions that are tuples -/
def TgW2 (g : TG) (vs : List Nat) : Prop := ∀ (v : V) (σ0 σ : L2.St) (H : Hp) (Q Q' : L2.St → Hp → Prop), wipe σ vs = wipe σ0 vs → g v σ H Q → (∀ σ' H', wipe σ' vs = wipe σ0 vs → Q σ' H' → Q' σ' H') → g v σ H Q'
def TgsW2 (g : TGs) (vs : List Nat) : Prop := ∀ (v : List V) (σ0 σ : L2.St) (H : Hp) (Q Q' : L2.St → Hp → Prop), wipe σ vs = wipe σ0 vs → g v σ H Q → (∀ σ' H', wipe σ' vs = wipe σ0 vs → Q σ' H' → Q' σ' H') → g v σ H Q'
theorem wipe_set2 {σ : L2.St} {x : Option V} {i : Nat} {vs : List Nat} (h : i ∈ vs) : wipe (σ.set i x) vs = wipe σ vs := by
  apply List.ext_getElem?
  intro j
  rw [wipe_get, wipe_get, List.length_set, List.getElem?_set]
  by_cases hj : j ∈ vs ∧ j < σ.length
  · simp [hj]
  · by_cases q : i = j
    · subst q
      have hi : ¬ i < σ.length := fun z => hj ⟨h, z⟩
      simp [hi]
    · simp [hj, q]
theorem tw2_name {i : Nat} {vs : List Nat} (h : i ∈ vs) : TgW2 (gName i) vs := fun v σ0 σ H Q Q' e q k => k _ _ (by rw [wipe_set2 h, e]) q
theorem tws2_nil {vs : List Nat} : TgsW2 gNil vs := fun v σ0 σ H Q Q' e q k => ⟨q.1, k _ _ e q.2⟩
theorem tws2_cons {g : TG} {gs : TGs} {vs : List Nat} (h : TgW2 g vs) (h' : TgsW2 gs vs) : TgsW2 (gCons g gs) vs := fun v σ0 σ H Q Q' e q k => by
  obtain ⟨x, r, e1, q1⟩ := q
  exact ⟨x, r, e1, h x σ0 σ H _ _ e q1 fun σ' H' e' q' => h' r σ0 σ' H' _ _ e' q' k⟩
theorem tw2_tup {K : PySem.W.Frag} {n : Nat} {gs : TGs} {vs : List Nat} (h : TgsW2 gs vs) : TgW2 (gTup K n gs) vs := fun v σ0 σ H Q Q' e q k => by
  obtain ⟨a, xs, e1, e2, e3, q1⟩ := q
  exact ⟨a, xs, e1, e2, e3, h xs σ0 σ H _ _ e q1 k⟩
theorem wipe_wipe {σ : L2.St} {vs : List Nat} : wipe (wipe σ vs) vs = wipe σ vs := by
  apply List.ext_getElem?
  intro j
  rw [wipe_get, wipe_length, wipe_get]
  by_cases hj : j ∈ vs ∧ j < σ.length <;> simp [hj]
theorem tw_of {g : TG} {vs : List Nat} (h : TgW2 g vs) : TgW g vs := fun v σ H Q Q' q k => h v σ (wipe σ vs) H Q Q' wipe_wipe q k
/-! ### sum of a tuple or a list -/
def rSumT (K : PySem.W.Frag) : List V → Hp → VK → Prop := fun vs H Q => ∃ (a : Addr) (ns : List Int), vs = [V.ref a] ∧ SqT K H a (ns.map V.int) ∧ Q (.int ns.sum) H
theorem cr_sumT {X : Cx} (hc : X.calm = true) : CallR X (.builtin "sum") (rSumT X.K) := by
  intro pins s σ H vs us Q I r h
  obtain ⟨a, ns, rfl, hs, q⟩ := h
  obtain ⟨its, rv, hl, _⟩ := I.tuple hs
  rw [Vals.ref1 r]
  have hi : IntsAre its ns := rv.ints
  have ht : s.heap.IsTuple a its.toArray := hl
  obtain ⟨xs, e⟩ := hi.allInts.items
  have hn : numsOf (intItems xs).toList = ns := by rw [← e]; exact hi.numsOf
  rw [nums_intItems] at hn
  rw [e] at ht
  refine PySem.W.ktm_sumG (I.ok.hd hc) ht fun h' tk t' hk => ?_
  have z : V.int ns.sum = V.int ns.sum := rfl
  rw [preSum_eq, List.take_of_length_le (by simp), hn]
  exact ⟨.int _, H, I.kept hk, ⟨_, rfl⟩, q⟩
section
variable {K : PySem.W.Frag} {mg : Str → Option Value}
def gSum2 : List D → Mem → Res D := fun xs m => match xs with
  | [.tup ds] => (match intsD ds with
    | some bs => .ok (.int bs.sum) m
    | none => .bad)
  | _ => gSum xs m
theorem cs_sum2 : CallS K mg (fun vs H Q => rSum K vs H Q ∨ rSumT K vs H Q) gSum2 := by
  intro H L m ds vs W Q r i h
  unfold gSum2 at h
  split at h
  · rename_i es
    split at h
    · rename_i bs q
      obtain ⟨v, e, iv⟩ := isl1 i
      obtain ⟨p, ws, e1, f1, g1⟩ := is_tup iv
      exact .inr ⟨p, bs, by rw [e, e1], by rw [← ints_of g1 q]; exact f1.sq, Fin.ok (rel := relV K) h r rfl⟩
    · exact h.elim
  · exact .inl (cs_sum H L m ds vs W Q r i h)
end
theorem cr_sum2 {X : Cx} (hc : X.calm = true) : CallR X (.builtin "sum") (fun vs H Q => rSum X.K vs H Q ∨ rSumT X.K vs H Q) := CallR.or2 (cr_sum hc) (cr_sumT hc)
/-! ### l[::-1] -/
section
variable {X : Cx} {W : WX} {e : Expr} {fe : Env → Mem → Res D} {k : Nat} {p1 p2 p3 pos : Pos}
theorem IsL.reverse {K L H} : ∀ {ds : List D} {vs : List V}, IsL K L H ds vs → IsL K L H ds.reverse vs.reverse
  | [], vs, h => by rw [show vs = [] from h]; exact rfl
  | d :: ds, vs, h => by
    obtain ⟨v, r, e, i, f⟩ := (show ∃ v r, vs = v :: r ∧ Is K L H d v ∧ IsL K L H ds r by simpa only [IsL] using h)
    subst e
    rw [List.reverse_cons, List.reverse_cons]
    exact (IsL.reverse f).append (IsL.one i)
def fRev (fe : Env → Mem → Res D) : Env → Mem → Res D := fun ρ m => (fe ρ m).bind fun o m => match o with
  | .rol ds => newL ds.reverse m
  | .ref n => (match m[n]? with
    | some (.lst ds) => newL ds.reverse m
    | _ => .bad)
  | _ => .bad
theorem m_rev (he : PE X e (tE X.K X.mg W fe)) : PE X (.Subscript e (.Slice none none (some (.UnaryOp .USub (.Constant (.int 1) k p1) p2)) p3) pos) (tE X.K X.mg W (fRev fe)) := by
  refine PE.of (pe_revL he) fun σ H Q h => ?_
  obtain ⟨L, ρ, m, a, h⟩ := h
  refine ⟨L, ρ, m, a, (Fin.bind (rel := relV X.K) h).imp ?_⟩
  rintro x H1 ⟨od, m1, L1, k1, r1, i1, h1⟩
  cases od with
  | rol ds =>
    obtain ⟨p, vs, e1, f1, g1⟩ := is_rol i1
    exact ⟨p, vs, e1, f1.sq, fun q hq => lst_new r1 g1.reverse h1 hq⟩
  | ref n =>
    obtain ⟨p, e1, e2⟩ := is_ref i1
    simp only at h1
    split at h1
    · rename_i ds z
      obtain ⟨vs, f1, g1⟩ := r1.lst' z e1
      exact ⟨p, vs, e2, SqL.of f1, fun q hq => lst_new r1 g1.reverse h1 hq⟩
    · exact h1.elim
  | _ => exact (show False from h1).elim
end
/-! ### d.get(k) -/
section
variable {X : Cx} {W : WX} {o e : Expr} {fo fe : Env → Mem → Res D} {apos cpos : Pos}
def fGet1 (fo fe : Env → Mem → Res D) : Env → Mem → Res D := fun ρ m => (fo ρ m).bind fun o m => match o with
  | .ref n => (match m[n]? with
    | some (.dic _ _) => (fe ρ m).bind fun k m => (match m[n]?, keyD k with
      | some (.dic ks ds), some k => .ok ((valD ks ds k).getD .non) m
      | _, _ => .bad)
    | _ => .bad)
  | _ => .bad
theorem m_get1 (hu : X.A.units + 1 < cLine) (ho : PE X o (tE X.K X.mg W fo)) (he : PE X e (tE X.K X.mg W fe)) (hm : M1 X o "get" apos e cpos := by exact ⟨rfl, rfl, rfl, rfl⟩) :
    PE X (.Call (.Attribute o "get" apos) [e] [] cpos) (tE X.K X.mg W (fGet1 fo fe)) := by
  refine PE.of (pe_dget1 hu ho he hm) fun σ H Q h => ?_
  obtain ⟨L, ρ, m, a, h⟩ := h
  refine ⟨L, ρ, m, a, (Fin.bind (rel := relV X.K) h).imp ?_⟩
  rintro x H1 ⟨od, m1, L1, k1, r1, i1, h1⟩
  cases od with
  | ref n =>
    obtain ⟨p, e1, e2⟩ := is_ref i1
    simp only at h1
    split at h1
    · rename_i ks0 ds0 z
      obtain ⟨a', kvs0, e3, f1, _, _⟩ := r1.dic z
      rw [e1] at e3
      cases e3
      have a1 := a.mono k1 r1
      refine ⟨p, e2, .inl ⟨kvs0, .inl f1⟩, L1, ρ, m1, a1, (Fin.bind (rel := relV X.K) h1).imp ?_⟩
      rintro y H2 ⟨kd, m2, L2, k2, r2, i2, h2⟩
      split at h2
      · rename_i ks ds k z3 hk
        obtain ⟨a', kvs, e4, g1, g2, g3⟩ := r2.dic z3
        rw [k2.at e1] at e4
        cases e4
        subst g2
        refine ⟨valV kvs k, by rw [key_is hk i2]; exact DGet.k g1, Fin.ok (rel := relV X.K) h2 r2 ?_⟩
        cases q : valD (kvs.map (·.1)) ds k with
        | none =>
          rw [(val_at g3).2 q]
          exact (rfl : V.non = V.non)
        | some d =>
          obtain ⟨v, hv, iv⟩ := (val_at g3).1 d q
          rw [hv]
          exact iv
      · exact h2.elim
    · exact h1.elim
  | _ => exact (show False from h1).elim
end
/-! ### l.index(x), l.count(x) -/
section
variable {X : Cx}
def rCountD (K : PySem.W.Frag) : V → List V → Hp → VK → Prop := fun x xs H Q => ∃ (a : Addr) (y : V) (d : PyData) (ds : List PyData), x = V.ref a ∧ xs = [y] ∧ Dp K H (V.ref a) (.list ds) ∧ Dp K H y d ∧
  SeqAt.shaped (.list ds) = true ∧ SeqAt.shaped d = true ∧ Q (.int (ds.countP fun z => PyData.eqv z d : Nat)) H
theorem mt_countD (hu : X.A.units + 65 < cLine) : MtR X "list.count" (rCountD X.K) := by
  intro pins s σ H x xs v us Q I rx rxs h
  obtain ⟨a, y, d, ds, rfl, rfl, hl, hy, sl, sd, q⟩ := h
  cases rx
  cases rxs with
  | cons ry rt =>
    rename_i uy ut
    cases rt
    obtain ⟨bs, r1⟩ := Dp.reads I d y uy hy ry
    have hxs : PyData.canLayAll0 ds = true := SeqAt.canLay_of_shaped sl
    have hroom : X.A.units + 1 + min (PyData.depthAll ds) d.depth < cLine := room_in_shaped sd hu
    cases hl with
    | lst hs ha =>
      obtain ⟨its, rv, ⟨⟨cls, dd, data, sls⟩, n, ho, hc, hdn, hdt⟩, hlen⟩ := I.list hs
      simp only at hc hdt
      subst hc hdt
      obtain ⟨as, h4⟩ := Dp.readsAll I ds _ its ha rv
      have hmap : its.map (SeqAt.readOf s.heap) = ds := SeqAt.readsAll_map ds its as hxs h4
      refine call_meets PySem.F.slot_list_count ⟨_, ho, rfl⟩ PySem.F.entry_list_count (PySem.F.args_list_count_2 _ _)
        (SeqAt.list_countAt a its.toArray n dd sls uy (fun u => PyData.eqv (SeqAt.readOf s.heap u) d)) ⟨ho, SeqAt.items_eqAt (vs := its.toArray) (show ReadsAll s.heap its.toArray.toList ds as from h4) r1 hxs (SeqAt.canLay_of_shaped sd) hroom, ?_⟩
      have ec : its.toArray.toList.countP (fun u => PyData.eqv (SeqAt.readOf s.heap u) d) = ds.countP fun z => PyData.eqv z d := by
        rw [← hmap, List.countP_map]
        rfl
      refine ⟨.int (ds.countP fun z => PyData.eqv z d : Nat), H, I.tok _, ⟨s.toks, ?_⟩, q⟩
      rw [ec]
end
def findD : List PyData → PyData → Option Nat
  | [], _ => none
  | z :: r, d => if PyData.eqv z d = true then some 0 else match findD r d with
    | some j => some (j + 1)
    | none => none
theorem findD_is : ∀ {ds : List PyData} {d : PyData} {j : Nat}, findD ds d = some j → ∃ z, ds[j]? = some z ∧ PyData.eqv z d = true ∧ ∀ (m : Nat) (z' : PyData), m < j → ds[m]? = some z' → PyData.eqv z' d = false
  | [], d, j, h => by cases h
  | z :: r, d, j, h => by
    unfold findD at h
    by_cases q : PyData.eqv z d = true
    · rw [if_pos q] at h
      cases h
      exact ⟨z, rfl, q, fun m z' hm => absurd hm (Nat.not_lt_zero _)⟩
    · rw [if_neg q] at h
      split at h
      · rename_i k hk
        cases h
        obtain ⟨y, h1, h2, h3⟩ := findD_is hk
        refine ⟨y, h1, h2, fun m z' hm hz => ?_⟩
        cases m with
        | zero =>
          cases hz
          exact Bool.eq_false_iff.mpr q
        | succ m => exact h3 m z' (Nat.lt_of_succ_lt_succ hm) hz
      · cases h
def fLM (g : List PyData → PyData → Option D) (fo : Env → Mem → Res D) (fs : Env → Mem → Res (List D)) : Env → Mem → Res D := fun ρ m => (fo ρ m).bind fun o m => match o with
  | .ref n => (match m[n]? with
    | some (.lst _) => (fs ρ m).bind fun ds m => (match ds with
      | [x] => (match pyM m (.ref n), pyM m x with
        | some (.list as), some b => if (SeqAt.shaped (.list as) && SeqAt.shaped b) = true then (match g as b with
          | some d => .ok d m
          | none => .bad) else .bad
        | _, _ => .bad)
      | _ => .bad)
    | _ => .bad)
  | .rol rs => (fs ρ m).bind fun ds m => (match ds with
      | [x] => (match pyM m (.rol rs), pyM m x with
        | some (.list as), some b => if (SeqAt.shaped (.list as) && SeqAt.shaped b) = true then (match g as b with
          | some d => .ok d m
          | none => .bad) else .bad
        | _, _ => .bad)
      | _ => .bad)
  | _ => .bad
def kIndex : List PyData → PyData → Option D := fun as b => (findD as b).map fun j => .int (j : Nat)
def kCount : List PyData → PyData → Option D := fun as b => some (.int (as.countP fun z => PyData.eqv z b : Nat))
section
variable {X : Cx} {W : WX} {o e : Expr} {fo : Env → Mem → Res D} {fs : Env → Mem → Res (List D)} {apos cpos : Pos} {r : V → List V → Hp → VK → Prop} {g : List PyData → PyData → Option D}
/-- what the rule asks -/
def LmS (K : PySem.W.Frag) (mg : Str → Option Value) (r : V → List V → Hp → VK → Prop) (g : List PyData → PyData → Option D) : Prop :=
  ∀ (H : Hp) (a : Addr) (y : V) (as : List PyData) (b : PyData) (d : D) (Q : VK), Dp K H (V.ref a) (.list as) → Dp K H y b → SeqAt.shaped (.list as) = true → SeqAt.shaped b = true → g as b = some d → (∀ v, (∀ L H, Is K L H d v) → Q v H) → r (.ref a) [y] H Q
theorem lm_index {K : PySem.W.Frag} {mg : Str → Option Value} : LmS K mg (rIndexD K) kIndex := by
  intro H a y as b d Q h1 h2 h3 h4 hg q
  unfold kIndex at hg
  cases z : findD as b with
  | none => rw [z] at hg; cases hg
  | some j =>
    rw [z] at hg
    cases hg
    obtain ⟨w, e1, e2, e3⟩ := findD_is z
    exact ⟨a, y, b, as, j, w, rfl, rfl, h1, h2, h3, h4, e1, e2, e3, q _ fun L H => rfl⟩
theorem lm_count {K : PySem.W.Frag} {mg : Str → Option Value} : LmS K mg (rCountD K) kCount := by
  intro H a y as b d Q h1 h2 h3 h4 hg q
  cases hg
  exact ⟨a, y, b, as, rfl, rfl, h1, h2, h3, h4, q _ fun L H => rfl⟩
theorem lm_ok {K : PySem.W.Frag} {mg : Str → Option Value} {W : WX} (hs : LmS K mg r g) {σ : L2.St} {H : Hp} {Q : VK} (h : tE K mg W (fLM g fo fs) σ H Q) : tBM K "list" r (tE K mg W fo) (tA K mg W fs) σ H Q := by
  obtain ⟨L, ρ, m, a, h⟩ := h
  refine ⟨L, ρ, m, a, (Fin.bind (rel := relV K) h).imp ?_⟩
  rintro x H1 ⟨od, m1, L1, k1, r1, i1, h1⟩
  have fin : ∀ {H2 L2 m2} {as : List PyData} {b : PyData} {p : Addr} {y : V} (r2 : Rep K H2 L2 m2), Dp K H2 (V.ref p) (.list as) → Dp K H2 y b → (SeqAt.shaped (.list as) && SeqAt.shaped b) = true →
      Fin K mg (relV K) (fun c d H' => W c d σ H') H2 L2 (match g as b with
          | some d => .ok d m2
          | none => .bad) Q → r (.ref p) [y] H2 Q := by
    intro H2 L2 m2 as b p y r2 d1 d2 hz h2
    rw [Bool.and_eq_true] at hz
    cases hg : g as b with
    | none =>
      simp only [hg] at h2
      exact h2.elim
    | some d =>
      simp only [hg] at h2
      exact hs H2 p y as b d Q d1 d2 hz.1 hz.2 hg fun v hv => Fin.ok (rel := relV K) h2 r2 (hv _ _)
  cases od with
  | ref n =>
    obtain ⟨p, e1, e2⟩ := is_ref i1
    simp only at h1
    split at h1
    · rename_i ds0 z
      obtain ⟨vs0, f0, _⟩ := r1.lst' z e1
      subst e2
      refine ⟨.inl ⟨rfl, vs0, SqL.of f0⟩, L1, ρ, m1, a.mono k1 r1, (Fin.bind (rel := relA K) h1).imp ?_⟩
      rintro ys H2 ⟨ds, m2, L2, k2, r2, i2, h2⟩
      split at h2
      · rename_i x
        split at h2
        · rename_i as b q1 q2
          by_cases hz : (SeqAt.shaped (.list as) && SeqAt.shaped b) = true
          · rw [if_pos hz] at h2
            obtain ⟨y, ey, iy⟩ := isl1 i2
            rw [ey]
            exact fin r2 (dpm_of r2 (k2.is _ i1) q1) (dpm_of r2 iy q2) hz h2
          · rw [if_neg hz] at h2
            exact h2.elim
        · exact h2.elim
      · exact h2.elim
    · exact h1.elim
  | rol rs =>
    obtain ⟨p, vs, e1, f1, g1⟩ := is_rol i1
    subst e1
    refine ⟨.inl ⟨rfl, vs, f1.sq⟩, L1, ρ, m1, a.mono k1 r1, (Fin.bind (rel := relA K) h1).imp ?_⟩
    rintro ys H2 ⟨ds, m2, L2, k2, r2, i2, h2⟩
    split at h2
    · rename_i x
      split at h2
      · rename_i as b q1 q2
        by_cases hz : (SeqAt.shaped (.list as) && SeqAt.shaped b) = true
        · rw [if_pos hz] at h2
          obtain ⟨y, ey, iy⟩ := isl1 i2
          rw [ey]
          exact fin r2 (dpm_of r2 (k2.is _ i1) q1) (dpm_of r2 iy q2) hz h2
        · rw [if_neg hz] at h2
          exact h2.elim
      · exact h2.elim
    · exact h2.elim
  | _ => exact (show False from h1).elim
theorem m_index (hu : X.A.units + 65 < cLine) (ho : PE X o (tE X.K X.mg W fo)) (ha : PA X [e] (tA X.K X.mg W fs))
    (hbase : attributeBase o "index" X.env (eval o X.env) = eval o X.env := by rfl)
    (hfew : ((backTo cpos (starEach [e] X.env)).all (fun x => !x.1) && (backToKw cpos (keywordEach [] X.env)).all (fun x => x.1.isSome)
      && decide (([e] : List Expr).length + ([] : List Keyword).length + (if ([] : List Keyword).isEmpty then 0 else 1) < 30)) = true := by rfl)
    (hline : (apos.endLine == cpos.line) = true := by rfl) (hs : starEach [e] X.env = (false, eval e X.env) :: starEach [] X.env := by rfl) (hplain : (backTo cpos (starEach [] X.env)).any (·.1) = false := by rfl) :
    PE X (.Call (.Attribute o "index" apos) [e] [] cpos) (tE X.K X.mg W (fLM kIndex fo fs)) :=
  PE.of (pe_bm PySem.F.plainAttrs_list PySem.F.slot_list_index PySem.F.type_list_index (mt_indexD hu) ho ha hbase hfew hline hs hplain) fun _ _ _ h => lm_ok (mg := X.mg) lm_index h
theorem m_count (hu : X.A.units + 65 < cLine) (ho : PE X o (tE X.K X.mg W fo)) (ha : PA X [e] (tA X.K X.mg W fs))
    (hbase : attributeBase o "count" X.env (eval o X.env) = eval o X.env := by rfl)
    (hfew : ((backTo cpos (starEach [e] X.env)).all (fun x => !x.1) && (backToKw cpos (keywordEach [] X.env)).all (fun x => x.1.isSome)
      && decide (([e] : List Expr).length + ([] : List Keyword).length + (if ([] : List Keyword).isEmpty then 0 else 1) < 30)) = true := by rfl)
    (hline : (apos.endLine == cpos.line) = true := by rfl) (hs : starEach [e] X.env = (false, eval e X.env) :: starEach [] X.env := by rfl) (hplain : (backTo cpos (starEach [] X.env)).any (·.1) = false := by rfl) :
    PE X (.Call (.Attribute o "count" apos) [e] [] cpos) (tE X.K X.mg W (fLM kCount fo fs)) :=
  PE.of (pe_bm PySem.F.plainAttrs_list PySem.F.slot_list_count PySem.F.type_list_count (mt_countD hu) ho ha hbase hfew hline hs hplain) fun _ _ _ h => lm_ok (mg := X.mg) lm_count h
end
end Mn
end
section
set_option Elab.async false
set_option Elab.async false
set_option linter.all false
set_option maxRecDepth 100000
set_option maxHeartbeats 2000000
namespace Mn
open PySem PySem.Spec PyProof.Rows L2
variable [Clo]
/-! ### dict comprehensions -/
def putD (n : Nat) (k x : D) (m : Mem) (c : Mem → Res D) : Res D := match m[n]?, keyD k with
  | some (.dic ks ds), some k => if ks.length < 16777216 then c (m.set n (.dic (putKs ks k) (putVs ks ds k x))) else .bad
  | _, _ => .bad
def dcompD (n : Nat) (still : Mem → Bool) (t : D → Env → Option Env) (tt : Env → Mem → Res Bool) (tk tv : Env → Mem → Res D) (ρ : Env) : List D → Mem → Res D
  | [], m => if still m then .ok (.ref n) m else .bad
  | d :: ds, m => if still m then (match t d ρ with
    | none => .bad
    | some ρ1 => (noex (tt ρ1 m)).bind fun b m => match b with
      | true => (noex (tk ρ1 m)).bind fun k m => (noex (tv ρ1 m)).bind fun x m => putD n k x m (dcompD n still t tt tk tv ρ ds)
      | false => dcompD n still t tt tk tv ρ ds m) else .bad
def fDcomp (vs : List Nat) (f : Env → Mem → Res Src) (t : D → Env → Option Env) (tt : Env → Mem → Res Bool) (tk tv : Env → Mem → Res D) : Env → Mem → Res D := fun ρ m =>
  (f ρ m).bind fun s m => dcompD m.length s.2 t tt tk tv (wipeE ρ vs) s.1 (m ++ [.dic [] []])
section
variable {X : Cx} {W : WX} {kx vx tg iter : Expr} {ifs : List Expr} {scope : Scope} {wi : TI} {g : TG} {f : Env → Mem → Res Src} {t : D → Env → Option Env} {ft : Env → Mem → Res Bool} {fk fv : Env → Mem → Res D} {pos : Pos}
theorem dcomp_ok {K : PySem.W.Frag} {mg : Str → Option Value} {WK : XK} {J : It} {ds : List D} {still : Mem → Bool} {H1 : Hp} {L1 : List Addr} {ρ : Env} {m1 : Mem} {σ : L2.St} {vs : List Nat} {Q : VK}
    (w : Walk K J ds still H1 L1) (tg : TgS K g t) (tw : TgW g vs) (a : At K σ H1 L1 ρ m1)
    (h : Fin K mg (relV K) WK H1 L1 (dcompD m1.length still t ft fk fv (wipeE ρ vs) ds (m1 ++ [.dic [] []])) Q) (D0 : Addr) (hD : H1 D0 = none) :
    ∃ Wv : Nat → Nat → Hp → Prop, (∃ k, Wv 0 k (upd H1 D0 (.dK []))) ∧ ∀ i k H, Wv i k H →
      (J.stop i H ∧ Q (.ref D0) H) ∨ (J.go i H ∧ ∃ Nx : Hp → Prop, (∀ H', Nx H' → ∃ k', k' < k ∧ Wv (i + 1) k' H') ∧ ∀ x H', J.yld i H x H' → g x (wipe σ vs) H' fun σ2 H2 => wipe σ2 vs = wipe σ vs ∧ tT K mg W0 ft σ2 H2 fun b H3 =>
        if b = true then tE K mg W0 fk σ2 H3 fun y H4 => tE K mg W0 fv σ2 H4 fun z H5 => ∃ kvs k, y = kV k ∧ H5 D0 = some (.dK kvs) ∧ kvs.length < sizeLine ∧ Nx (upd H5 D0 (.dK (putK kvs k z))) else Nx H3) := by
  have k0 : Kp H1 L1 (upd H1 D0 (.dK [])) (L1 ++ [D0]) := Kp.newH hD
  have r0 : Rep K (upd H1 D0 (.dK [])) (L1 ++ [D0]) (m1 ++ [.dic [] []]) := a.rep.newH hD ⟨[], upd_same, rfl, rfl⟩
  have n0 : (L1 ++ [D0])[m1.length]? = some D0 := by rw [← a.rep.len, List.getElem?_concat_length]
  have w0 := w.mono k0
  have a0 : At K (wipe σ vs) (upd H1 D0 (.dK [])) (L1 ++ [D0]) (wipeE ρ vs) (m1 ++ [.dic [] []]) := (a.wipe vs).mono k0 r0
  refine ⟨fun i k H => k = ds.length - i ∧ i ≤ ds.length ∧ ∃ L m, Kp (upd H1 D0 (.dK [])) (L1 ++ [D0]) H L ∧ Rep K H L m ∧ Fin K mg (relV K) WK H L (dcompD m1.length still t ft fk fv (wipeE ρ vs) (ds.drop i) m) Q,
    ⟨ds.length, rfl, Nat.zero_le _, _, _, Kp.refl _ _, r0, h.mono k0⟩, ?_⟩
  rintro i k H ⟨rfl, hi, L, m, kp, r, h⟩
  by_cases hlt : i < ds.length
  · rw [List.drop_eq_getElem_cons hlt] at h
    simp only [dcompD] at h
    cases hs : still m with
    | false =>
      rw [hs, if_neg Bool.false_ne_true] at h
      exact h.elim
    | true =>
      rw [hs, if_pos rfl] at h
      obtain ⟨go, _⟩ := w0.run H L m kp r hs
      obtain ⟨hgo, hy⟩ := go i hlt
      cases ht : t ds[i] (wipeE ρ vs) with
      | none =>
        simp only [ht] at h
        exact h.elim
      | some ρ1 =>
        simp only [ht] at h
        refine .inr ⟨hgo, fun H' => ∃ L' m', Kp (upd H1 D0 (.dK [])) (L1 ++ [D0]) H' L' ∧ Rep K H' L' m' ∧ Fin K mg (relV K) WK H' L' (dcompD m1.length still t ft fk fv (wipeE ρ vs) (ds.drop (i + 1)) m') Q, fun H' ⟨L', m', k1, r1, h1⟩ => ⟨ds.length - (i + 1), by omega, rfl, hlt, L', m', k1, r1, h1⟩, fun x H' y => ?_⟩
        obtain ⟨kpy, rpy, d, ed, id⟩ := hy x H' y
        replace h := Fin.mono h kpy
        replace kp := kp.trans kpy
        replace r := rpy
        clear hy
        have ed' : ds[i] = d := by
          rw [List.getElem?_eq_getElem hlt] at ed
          exact Option.some.inj ed
        subst ed'
        refine tw x σ H' _ _ (tg _ x _ H' L _ ρ1 m (fun σ2 H2 => At K σ2 H2 L ρ1 m ∧ H2 = H') (a0.mono kp r) id ht fun σ2 a2 => ⟨a2, rfl⟩) ?_
        rintro σ2 H2 hw ⟨a2, rfl⟩
        refine ⟨hw, L, ρ1, m, a2, ?_⟩
        refine (Fin.noex (Fin.bind h (rel := relB))).imp ?_
        rintro b H3 ⟨b', m3, L3, k3, r3, i3, h3⟩
        have eb : b = b' := i3
        subst eb
        cases b with
        | false =>
          rw [if_neg Bool.false_ne_true]
          exact ⟨L3, m3, kp.trans k3, r3, h3⟩
        | true =>
          rw [if_pos rfl]
          refine ⟨L3, ρ1, m3, a2.mono k3 r3, ?_⟩
          refine (Fin.noex (Fin.bind h3 (rel := relV K))).imp ?_
          rintro kv H4 ⟨dk, m4, L4, k4, r4, i4, h4⟩
          refine ⟨L4, ρ1, m4, (a2.mono k3 r3).mono k4 r4, ?_⟩
          refine (Fin.noex (Fin.bind h4 (rel := relV K))).imp ?_
          rintro v H5 ⟨dv, m5, L5, k5, r5, i5, h5⟩
          unfold putD at h5
          split at h5
          · rename_i ks es key q hk
            by_cases hz : ks.length < 16777216
            · rw [if_pos hz] at h5
              obtain ⟨a', kvs, e1, f1, f2, f3⟩ := r5.dic q
              have ea : a' = D0 := by
                have := (kp.trans (k3.trans (k4.trans k5))).at n0
                rw [e1] at this
                exact Option.some.inj this
              subst ea
              subst f2
              have kq : Kp H5 L5 (upd H5 a' (.dK (putK kvs key v))) L5 := Kp.wrO r5 e1 f1 (fun ps z => by cases z) (fun φ z => by cases z)
              have pk := putK_is (k := key) (kq.is _ i5) (kq.isL _ f3)
              have rp := r5.wrO (o0 := .dK kvs) (ob := .dic (putKs (kvs.map (·.1)) key) (putVs (kvs.map (·.1)) es key dv)) e1 kq ⟨putK kvs key v, upd_same, pk.1, pk.2⟩
              refine ⟨kvs, key, key_is hk (k5.is _ i4), f1, ?_, L5, _, (kp.trans (k3.trans (k4.trans k5))).trans kq, rp, h5.mono kq⟩
              rw [List.length_map] at hz
              rw [sizeLine_eq]
              exact hz
            · rw [if_neg hz] at h5
              exact h5.elim
          · exact h5.elim
  · have e : i = ds.length := by omega
    subst e
    rw [List.drop_eq_nil_of_le (Nat.le_refl _)] at h
    simp only [dcompD] at h
    cases hs : still m with
    | false =>
      rw [hs, if_neg Bool.false_ne_true] at h
      exact h.elim
    | true =>
      rw [hs, if_pos rfl] at h
      obtain ⟨_, stop⟩ := w0.run H L m kp r hs
      refine .inl ⟨stop, Fin.ok (rel := relV K) h r ?_⟩
      simp only [relV, Is]
      exact ⟨D0, kp.at n0, rfl⟩
theorem m_dc (own : List (Str × Nat)) (hc : X.calm = true) (hN : X.N.Nodup) (hi : PI X tg iter wi) (hw : WalkI X.K X.mg W wi f) (ok : BlkOk X.N X.env.scope scope own) (htg : TgS X.K g t) (htw : TgW g (own.map (·.2)))
    (hg : ∀ (s : Shared) (H : Hp) (C : Addr) (cl : List (Str × Addr)) (fp : List Addr), PG (X.blk s H scope (compEnvC scope cl C X.env) fp) tg g)
    (ht : ∀ (s : Shared) (H : Hp) (C : Addr) (cl : List (Str × Addr)) (fp : List Addr), PTs (X.blk s H scope (compEnvC scope cl C X.env) fp) ifs (tT X.K X.mg W0 ft))
    (hk : ∀ (s : Shared) (H : Hp) (C : Addr) (cl : List (Str × Addr)) (fp : List Addr), PE (X.blk s H scope (compEnvC scope cl C X.env) fp) kx (tE X.K X.mg W0 fk))
    (he : ∀ (s : Shared) (H : Hp) (C : Addr) (cl : List (Str × Addr)) (fp : List Addr), PE (X.blk s H scope (compEnvC scope cl C X.env) fp) vx (tE X.K X.mg W0 fv))
    (hs : ∀ x, foldedSetIterable iter X.env x = pure x := by intro _; rfl) :
    PE X (.DictComp kx vx [⟨tg, iter, ifs, 0⟩] scope pos) (tE X.K X.mg W (fDcomp (own.map (·.2)) f t ft fk fv)) := by
  refine PE.of (pe_dc hc hN hi ok hg ht hk he hs) fun σ H Q h => ?_
  obtain ⟨L, ρ, m, a, h⟩ := h
  refine hw σ H _ L ρ m a ((Fin.bind (rel := relJ X.K) h).imp ?_)
  rintro J H1 ⟨s, m1, L1, k1, r1, w, h1⟩
  exact fun D0 hD => dcomp_ok w htg htw (a.mono k1 r1) h1 D0 hD
end
/-! ### what a suite does not see of its exception's address -/
theorem clean_seq {i k : Nat} {f : Env → Mem → Res D} {G : Env → Mem → Out} {ρ : Env} {m : Mem} : clean i (sSeq (sSet k f) G ρ m) = match f ρ m with
    | .ok d m => clean i (G (ρ.set k (some d)) m)
    | _ => .bad := by
  unfold sSeq sSet resS
  cases f ρ m <;> rfl
theorem fVar_set2 {i j k : Nat} {x : Option D} {d : Option D} {ρ : Env} {m : Mem} (h : i ≠ j) : fVar j ((ρ.set i x).set k d) m = fVar j (ρ.set k d) m := by
  unfold fVar
  by_cases q : k = j
  · subst q
    by_cases hk : k < ρ.length
    · rw [List.getElem?_set_self (by rw [List.length_set]; exact hk), List.getElem?_set_self hk]
    · rw [List.getElem?_eq_none (by rw [List.length_set, List.length_set]; omega), List.getElem?_eq_none (by rw [List.length_set]; omega)]
  · rw [List.getElem?_set_ne q, List.getElem?_set_ne h, List.getElem?_set_ne q]
end Mn
end
section
set_option Elab.async false
set_option Elab.async false
set_option linter.all false
set_option maxRecDepth 100000
set_option maxHeartbeats 2000000
namespace Mn
open PySem PySem.Spec PyProof.Rows L2
/-! ### room within a suite -/
theorem mark_units (A : Around) (o : Option Value) : (A.mark o).units ≤ A.units + 2 := by
  unfold Around.mark
  simp
theorem u65m {k : Nat} {A : Around} {o : Option Value} (r : Room k A) : (A.mark o).units + 65 < cLine := by
  have := r.un
  have := mark_units A o
  omega
theorem u64m {k : Nat} {A : Around} {o : Option Value} (r : Room k A) : (A.mark o).units + 64 < cLine := by
  have := r.un
  have := mark_units A o
  omega
theorem hum {k : Nat} {A : Around} {o : Option Value} (r : Room k A) : (A.mark o).units + 1 < cLine := by
  have := r.un
  have := mark_units A o
  omega
end Mn
end
section
set_option Elab.async false
set_option Elab.async false
set_option linter.all false
set_option maxRecDepth 100000
set_option maxHeartbeats 2000000
namespace Mn
open PySem PySem.Spec PyProof.Rows L2
/-! ### a module's constants that are tuples -/
def allV (f : Value → Option D) : List Value → Option (List D)
  | [] => some []
  | v :: r => match f v, allV f r with
    | some d, some ds => some (d :: ds)
    | _, _ => none
def dV : Nat → PySem.W.Frag → Value → Option D
  | 0, _, _ => none
  | n + 1, K, u => match u with
    | .none => some .non
    | .bool b => some (.bl b)
    | .int i _ => some (.int i)
    | .str s _ => some (.str s)
    | .ref a => (match K.lookup a with
      | some ⟨.type c, _, .seq its _, _⟩ => if c = "tuple" ∧ its.size ≤ 16777216 then (allV (dV n K) its.toList).map D.tup else none
      | _ => none)
    | _ => none
section
variable [Clo] {K : PySem.W.Frag}
theorem allV_ok {f : Value → Option D} (hf : ∀ u d, f u = some d → ∃ v, RelV v u ∧ ∀ L H, Is K L H d v) : ∀ (us : List Value) (ds : List D), allV f us = some ds → ∃ vs, Vals vs us ∧ ∀ L H, IsL K L H ds vs
  | [], ds, h => by
    cases h
    exact ⟨[], .nil, fun _ _ => rfl⟩
  | u :: us, ds, h => by
    unfold allV at h
    split at h
    · rename_i d es q1 q2
      cases h
      obtain ⟨v, r, i⟩ := hf u d q1
      obtain ⟨vs, rs, is⟩ := allV_ok hf us es q2
      refine ⟨v :: vs, .cons r rs, fun L H => ?_⟩
      simp only [IsL]
      exact ⟨v, vs, rfl, i L H, is L H⟩
    · cases h
theorem dV_ok : ∀ (n : Nat) (u : Value) (d : D), dV n K u = some d → ∃ v, RelV v u ∧ ∀ L H, Is K L H d v
  | 0, _, _, h => by cases h
  | n + 1, u, d, h => by
    unfold dV at h
    split at h
    · cases h; exact ⟨.non, rfl, fun _ _ => rfl⟩
    · rename_i b; cases h; exact ⟨.bl b, rfl, fun _ _ => rfl⟩
    · rename_i i t; cases h; exact ⟨.int i, ⟨t, rfl⟩, fun _ _ => rfl⟩
    · rename_i s t; cases h; exact ⟨.str s, ⟨t, rfl⟩, fun _ _ => rfl⟩
    · rename_i a
      split at h
      · rename_i c dd its k sl q
        split at h
        · rename_i hc
          cases z : allV (dV n K) its.toList with
          | none =>
            rw [z] at h
            cases h
          | some ds =>
            rw [z] at h
            cases h
            obtain ⟨vs, hv, hi⟩ := allV_ok (dV_ok n) its.toList ds z
            refine ⟨.ref a, rfl, fun L H => ?_⟩
            simp only [Is]
            refine ⟨a, vs, rfl, .inr ⟨_, its, k, q, ?_, rfl, by rw [sizeLine_eq]; exact hc.2, hv⟩, hi L H⟩
            show Value.type c = Value.type "tuple"
            rw [hc.1]
        · cases h
      · cases h
    · cases h
end
/-- what a name of the module holds -/
def ConV (K : PySem.W.Frag) (mg : Str → Option Value) (x : Str) (d : D) : Prop := ∃ u, mg x = some u ∧ dV 5 K u = some d
def conK (cs : List (Str × D)) (K : PySem.W.Frag) : Bool := cs.all fun c => match PySem.W.nsIn K mainGlobals c.1 with
  | some (some u) => decide (dV 5 K u = some c.2)
  | _ => false
theorem conV_of {K : PySem.W.Frag} {h : Heap} {mg : Str → Option Value} {cs : List (Str × D)} (X : K.In h) (G : h.Ns mainGlobals mg) (e : conK cs K = true) {x : Str} {d : D} (hm : (x, d) ∈ cs) : ConV K mg x d := by
  have z := List.all_eq_true.mp e _ hm
  simp only at z
  split at z
  · rename_i u q
    exact ⟨u, PySem.W.mg_of X G q, of_decide_eq_true z⟩
  · cases z
theorem m_gcon [Clo] {X : Cx} {W : WX} {x : Str} {d : D} {pos : Pos} (c : ConV X.K X.mg x d) (hg : Gl X x := by rfl) (hd : (x == ("__debug__" : Str)) = false := by decide) : PE X (.Name x pos) (tE X.K X.mg W (fC d)) := by
  obtain ⟨u, hm, e⟩ := c
  obtain ⟨v, r, i⟩ := dV_ok 5 u d e
  exact m_glob hg hm r i hd
/-! ### a module's dicts with text keys -/
/-- the keys and values of a written dict at d, as data -/
def dictD (K : PySem.W.Frag) (a : Addr) : Option (List (Str × D)) := match K.lookup a with
  | some ⟨.type c, none, .dict es _, sl⟩ => if c = "dict" ∧ sl = #[] ∧ (a == sysModules) = false then
    allE es.toList else none
  | _ => none
where allE : List DictEntry → Option (List (Str × D))
  | [] => some []
  | e :: r => match e.key, dV 5 K e.val, allE r with
    | .str s _, some d, some q => some ((s, d) :: q)
    | _, _, _ => none
def lookS (kvs : List (Str × D)) (s : Str) : Option D := match kvs with
  | [] => none
  | (k, d) :: r => if k = s then some d else lookS r s
end Mn
end
section
set_option Elab.async false
set_option Elab.async false
set_option linter.all false
set_option maxRecDepth 100000
set_option maxHeartbeats 2000000
namespace Mn
open PySem PySem.Spec PyProof.Rows L2
/-- an entry's datum, wanted of a look-up -/
def EntOk (K : PySem.W.Frag) (o : Option D) (r : Option Value) : Prop := match o with
  | none => r = none
  | some d => ∃ u, r = some u ∧ dV 5 K u = some d
theorem find_of {K : PySem.W.Frag} (z : Str) : ∀ (es : List DictEntry) (kvs : List (Str × D)), dictD.allE K es = some kvs →
    (∃ r, (match es.find? (·.key.isStr z) with
      | some e => some (some e.val)
      | none => if es.any (·.refKey) then none else some none) = some r ∧ EntOk K (lookS kvs z) r) ∧ es.any (·.refKey) = false
  | [], kvs, h => by
    cases h
    exact ⟨⟨none, rfl, rfl⟩, rfl⟩
  | e :: r, kvs, h => by
    unfold dictD.allE at h
    split at h
    · rename_i s t d q h1 h2 h3
      cases h
      obtain ⟨⟨w, e1, e2⟩, e3⟩ := find_of z r q h3
      have rk : e.refKey = false := by unfold DictEntry.refKey; rw [h1]
      refine ⟨?_, by rw [List.any_cons, rk, e3]; rfl⟩
      by_cases hs : s = z
      · subst hs
        have ks : e.key.isStr s = true := by rw [h1]; simp [Value.isStr]
        refine ⟨some e.val, ?_, ?_⟩
        · rw [List.find?_cons_of_pos (p := fun x : DictEntry => x.key.isStr s) ks]
        · unfold lookS
          rw [if_pos rfl]
          exact ⟨e.val, rfl, h2⟩
      · have ks : ¬ e.key.isStr z = true := by rw [h1]; simp [Value.isStr, hs]
        refine ⟨w, ?_, ?_⟩
        · rw [List.find?_cons_of_neg (p := fun x : DictEntry => x.key.isStr z) ks, List.any_cons, rk, Bool.false_or]
          exact e1
        · unfold lookS
          rw [if_neg hs]
          exact e2
    · cases h
theorem nsIn_of {K : PySem.W.Frag} {a : Addr} {kvs : List (Str × D)} (h : dictD K a = some kvs) (z : Str) : ∃ r, PySem.W.nsIn K a z = some r ∧ EntOk K (lookS kvs z) r := by
  unfold dictD at h
  split at h
  · rename_i c es k sl q
    split at h
    · rename_i hc
      obtain ⟨⟨r, e1, e2⟩, _⟩ := find_of z es.toList kvs h
      refine ⟨r, ?_, e2⟩
      unfold PySem.W.nsIn
      rw [q]
      exact e1
    · cases h
  · cases h
/-- a module's dict with text keys -/
def DicV (K : PySem.W.Frag) (w : World) (mg : Str → Option Value) (x : Str) (kvs : List (Str × D)) : Prop := ∃ a es n, mg x = some (.ref a) ∧ KDict K w a es n ∧ dictD K a = some kvs
def dicK (cs : List (Str × List (Str × D))) (K : PySem.W.Frag) : Bool := cs.all fun c => (He.Fa.glo c.1).ok K && decide (dictD K (He.ga K c.1) = some c.2)
theorem dicV_of {K : PySem.W.Frag} {w : World} {h : Heap} {mg : Str → Option Value} {cs : List (Str × List (Str × D))} (X : K.In h) (G : h.Ns mainGlobals mg) (e : dicK cs K = true) {x : Str} {kvs : List (Str × D)} (hm : (x, kvs) ∈ cs) (hk : ∃ es n, KDict K w (He.ga K x) es n) : DicV K w mg x kvs := by
  have z := List.all_eq_true.mp e _ hm
  obtain ⟨z1, z2⟩ := He.ba z
  obtain ⟨es, n, k⟩ := hk
  exact ⟨_, es, n, He.glo_ok X G z1, k, of_decide_eq_true z2⟩
section
variable [Clo] {X : Cx} {W : WX} {a : Expr} {fa : Env → Mem → Res D} {x : Str} {kvs : List (Str × D)} {p pos : Pos}
/-- x in a written dict -/
def fInK (neg : Bool) (kvs : List (Str × D)) (fa : Env → Mem → Res D) : Env → Mem → Res D := fun ρ m => (fa ρ m).bind fun d m => match d with
  | .str s => .ok (.bl (neg != (lookS kvs s).isSome)) m
  | _ => .bad
def fIxK (kvs : List (Str × D)) (fa : Env → Mem → Res D) : Env → Mem → Res D := fun ρ m => (fa ρ m).bind fun d m => match d with
  | .str s => (match lookS kvs s with
    | some d => .ok d m
    | none => .bad)
  | _ => .bad
theorem ent_some {K : PySem.W.Frag} {o : Option D} {r : Option Value} (h : EntOk K o r) : r.isSome = o.isSome := by
  cases o with
  | none => rw [show r = none from h]; rfl
  | some d =>
    obtain ⟨u, e, _⟩ := h
    rw [e]
    rfl
theorem in_core {kvs : List (Str × D)} {d : Addr} (c3 : dictD X.K d = some kvs) {neg : Bool} {R : R2}
    (hq : ∀ (z : Str) (r : Option Value) (H : Hp) (Q : VK), PySem.W.nsIn X.K d z = some r → Q (.bl (neg != r.isSome)) H → R (.str z) (.ref d) H Q) {σ : L2.St} {H : Hp} {Q : VK}
    (h : tE X.K X.mg W (fInK neg kvs fa) σ H Q) : tOp R (tE X.K X.mg W fa) (tC (.ref d)) σ H Q := by
  obtain ⟨L, ρ, m, a0, h⟩ := h
  refine ⟨L, ρ, m, a0, (Fin.bind (rel := relV X.K) h).imp ?_⟩
  rintro y H1 ⟨dd, m1, L1, k1, r1, i1, h1⟩
  cases dd with
  | str s =>
    obtain ⟨r, e1, e2⟩ := nsIn_of c3 s
    have ey : y = .str s := i1
    subst ey
    refine hq s r H1 Q e1 ?_
    rw [ent_some e2]
    exact Fin.ok (rel := relV X.K) h1 r1 rfl
  | _ => exact (show False from h1).elim
theorem m_inK (c : DicV X.K X.w X.mg x kvs) (ha : PE X a (tE X.K X.mg W fa)) (hg : Gl X x := by rfl) (hd : (x == ("__debug__" : Str)) = false := by decide) (hm : behindInMarks .In (.Name x p) = false := by rfl) : PE X (.Compare a [.In] [.Name x p] pos) (tE X.K X.mg W (fInK false kvs fa)) := by
  obtain ⟨d, es, n, c1, c2, c3⟩ := c
  exact PE.of (pe_cmpR (op_in_kd c2) ha (pe_glob hg c1 (v := .ref d) rfl hd) hm) fun σ H Q h => in_core c3 (fun z r H Q e q => ⟨z, r, rfl, rfl, e, by rw [Bool.false_bne] at q; exact q⟩) h
theorem m_notInK (c : DicV X.K X.w X.mg x kvs) (ha : PE X a (tE X.K X.mg W fa)) (hg : Gl X x := by rfl) (hd : (x == ("__debug__" : Str)) = false := by decide) (hm : behindInMarks .NotIn (.Name x p) = false := by rfl) : PE X (.Compare a [.NotIn] [.Name x p] pos) (tE X.K X.mg W (fInK true kvs fa)) := by
  obtain ⟨d, es, n, c1, c2, c3⟩ := c
  exact PE.of (pe_cmpR (op_notIn_kd c2) ha (pe_glob hg c1 (v := .ref d) rfl hd) hm) fun σ H Q h => in_core c3 (fun z r H Q e q => ⟨z, r, rfl, rfl, e, by rw [Bool.true_bne] at q; exact q⟩) h
theorem m_inKT (c : DicV X.K X.w X.mg x kvs) (ha : PE X a (tE X.K X.mg W fa)) (hg : Gl X x := by rfl) (hd : (x == ("__debug__" : Str)) = false := by decide) (hm : behindInMarks .In (.Name x p) = false := by rfl) : PT X (.Compare a [.In] [.Name x p] pos) (tT X.K X.mg W (fun ρ m => (fInK false kvs fa ρ m).bind blD)) := by
  obtain ⟨d, es, n, c1, c2, c3⟩ := c
  exact PT.of (pt_cmpR (op_in_kd c2) ha (pe_glob hg c1 (v := .ref d) rfl hd) hm) fun σ H Q h => testOf (fun Q q => in_core c3 (fun z r H Q e q => ⟨z, r, rfl, rfl, e, by rw [Bool.false_bne] at q; exact q⟩) q) h
theorem m_notInKT (c : DicV X.K X.w X.mg x kvs) (ha : PE X a (tE X.K X.mg W fa)) (hg : Gl X x := by rfl) (hd : (x == ("__debug__" : Str)) = false := by decide) (hm : behindInMarks .NotIn (.Name x p) = false := by rfl) : PT X (.Compare a [.NotIn] [.Name x p] pos) (tT X.K X.mg W (fun ρ m => (fInK true kvs fa ρ m).bind blD)) := by
  obtain ⟨d, es, n, c1, c2, c3⟩ := c
  exact PT.of (pt_cmpR (op_notIn_kd c2) ha (pe_glob hg c1 (v := .ref d) rfl hd) hm) fun σ H Q h => testOf (fun Q q => in_core c3 (fun z r H Q e q => ⟨z, r, rfl, rfl, e, by rw [Bool.true_bne] at q; exact q⟩) q) h
theorem m_ixK (c : DicV X.K X.w X.mg x kvs) (ha : PE X a (tE X.K X.mg W fa)) (hg : Gl X x := by rfl) (hd : (x == ("__debug__" : Str)) = false := by decide) (hp : PlainIx a := by exact fun _ _ => rfl) : PE X (.Subscript (.Name x p) a pos) (tE X.K X.mg W (fIxK kvs fa)) := by
  obtain ⟨d, es, n, c1, c2, c3⟩ := c
  refine PE.of (pe_ix (ix_kdict (X := X)) (pe_glob hg c1 (v := .ref d) rfl hd) ha hp) fun σ H Q h => ?_
  obtain ⟨L, ρ, m, a0, h⟩ := h
  refine ⟨L, ρ, m, a0, (Fin.bind (rel := relV X.K) h).imp ?_⟩
  rintro y H1 ⟨dd, m1, L1, k1, r1, i1, h1⟩
  cases dd with
  | str s =>
    obtain ⟨r, e1, e2⟩ := nsIn_of c3 s
    have ey : y = .str s := i1
    subst ey
    simp only at h1
    cases z : lookS kvs s with
    | none =>
      simp only [z] at h1
      exact h1.elim
    | some dd =>
      simp only [z] at h1
      rw [z] at e2
      obtain ⟨u, e3, e4⟩ := e2
      subst e3
      obtain ⟨v, rv, iv⟩ := dV_ok 5 u dd e4
      exact ⟨d, s, v, rfl, rfl, ⟨es, n, u, c2.at_, c2.lit, e1, rv⟩, Fin.ok (rel := relV X.K) h1 r1 (iv L1 H1)⟩
  | _ => exact (show False from h1).elim
end
/-! ### len(set(v)), v a tuple of ints -/
def dd : List Int → List Int
  | [] => []
  | a :: r => if a ∈ r then dd r else a :: dd r
theorem dd_mem : ∀ {l : List Int} {k : Int}, k ∈ dd l ↔ k ∈ l
  | [], k => Iff.rfl
  | a :: r, k => by
    unfold dd
    by_cases h : a ∈ r
    · rw [if_pos h, dd_mem, List.mem_cons]
      exact ⟨Or.inr, fun z => z.elim (fun e => e ▸ h) id⟩
    · rw [if_neg h, List.mem_cons, List.mem_cons, dd_mem]
theorem dd_nodup : ∀ l : List Int, (dd l).Nodup
  | [] => List.nodup_nil
  | a :: r => by
    unfold dd
    by_cases h : a ∈ r
    · rw [if_pos h]; exact dd_nodup r
    · rw [if_neg h]; exact List.nodup_cons.mpr ⟨fun z => h (dd_mem.mp z), dd_nodup r⟩
section
variable [Clo] {X : Cx} {W : WX} {a : Expr} {fa : Env → Mem → Res D} {p p2 q pos : Pos}
def tLenSetT (K : PySem.W.Frag) (ta : TE) : TE := fun σ H Q => ta σ H fun x H1 => ∃ (l : Addr) (ns : List Int), x = V.ref l ∧ SqT K H1 l (ns.map V.int) ∧ ns.length ≤ 1000 ∧ Q (.int (dd ns).length) H1
theorem pe_lenSetT {ta : TE} (hc : X.calm = true) (hg : Gl X "len") (hm : X.mg "len" = none) (hg2 : Gl X "set") (hm2 : X.mg "set" = none) (ha : PE X a ta)
    (na : starEach [a] X.env = (false, eval a X.env) :: starEach [] X.env := by rfl) : PE X (.Call (.Name "len" p) [.Call (.Name "set" p2) [a] [] q] [] pos) (tLenSetT X.K ta) := by
  refine ⟨fun pins s σ H Q I h => ?_⟩
  refine Call_ (ld_blt I hg hm PySem.boot_len ?_)
  refine PyProof.Rows.callWith_builtin1 (PyProof.Rows.args_cons ?_ rfl) rfl rfl
  refine Call_ (ld_blt I hg2 hm2 PyProof.Rows.boot_set ?_)
  refine PyProof.Rows.callWith_type1 (PyProof.Rows.args_cons (thn (ha.run pins s σ H _ I h) fun v s1 ⟨x, H1, I1, r1, q1⟩ => PyProof.Rows.args_nil ?_) na) na rfl
  obtain ⟨l, ns, rfl, hq, h1, q1⟩ := q1
  cases r1
  obtain ⟨its, rv, pt, hz⟩ := I1.tuple hq
  have hi : IntsAre its.toArray.toList ns := ints_of_vals rv
  refine call_set_tupI ns (I1.ok.hd hc) (show s1.heap.IsTuple l its.toArray from pt) hi (by unfold scanBound; omega) fun h' tk c R1 hcn k => ?_
  obtain ⟨o, es, ep, t, ho, hex, hdt, g, nd, hm3, hb, hf, hn, hr, hl2⟩ := R1
  have hlen : es.size = (dd ns).length := by
    have pm : (es.toList.map keyOf).Perm (dd ns) := (List.perm_ext_iff_of_nodup nd (dd_nodup ns)).mpr fun k => by
      rw [← hm3 k, dd_mem, decide_eq_true_eq]
    have := pm.length_eq
    rw [List.length_map, Array.length_toList] at this
    exact this
  refine PyProof.Rows.args_nil ?_
  have I2 : Inv X pins σ H1 { s1 with heap := h', toks := tk } := I1.kept fun b o e => k b o e
  refine call_len_set ho hex hdt hf (by omega) ⟨.int (dd ns).length, H1, I2.tok _, ⟨_, by rw [hlen]⟩, q1⟩
def fLenSet (fa : Env → Mem → Res D) : Env → Mem → Res D := fun ρ m => (fa ρ m).bind fun d m => match d with
  | .tup ds => (match intsD ds with
    | some ns => if ns.length ≤ 1000 then .ok (.int (dd ns).length) m else .bad
    | none => .bad)
  | _ => .bad
theorem m_lenSet (hc : X.calm = true) (hm : X.mg "len" = none) (hm2 : X.mg "set" = none) (ha : PE X a (tE X.K X.mg W fa)) (hg : Gl X "len" := by rfl) (hg2 : Gl X "set" := by rfl)
    (na : starEach [a] X.env = (false, eval a X.env) :: starEach [] X.env := by rfl) : PE X (.Call (.Name "len" p) [.Call (.Name "set" p2) [a] [] q] [] pos) (tE X.K X.mg W (fLenSet fa)) := by
  refine PE.of (pe_lenSetT hc hg hm hg2 hm2 ha na) fun σ H Q h => ?_
  obtain ⟨L, ρ, m, a0, h⟩ := h
  refine ⟨L, ρ, m, a0, (Fin.bind (rel := relV X.K) h).imp ?_⟩
  rintro y H1 ⟨d, m1, L1, k1, r1, i1, h1⟩
  cases d with
  | tup ds =>
    obtain ⟨l, vs, e1, f1, g1⟩ := is_tup i1
    simp only at h1
    split at h1
    · rename_i ns z
      by_cases hn : ns.length ≤ 1000
      · rw [if_pos hn] at h1
        exact ⟨l, ns, e1, by rw [← ints_of g1 z]; exact f1.sq, hn, Fin.ok (rel := relV X.K) h1 r1 rfl⟩
      · rw [if_neg hn] at h1
        exact h1.elim
    · exact h1.elim
  | _ => exact (show False from h1).elim
end
end Mn
end
section
set_option Elab.async false
set_option Elab.async false
set_option linter.all false
set_option maxRecDepth 100000
set_option maxHeartbeats 4000000
namespace Pk
open PySem L2 Mn
abbrev N_is_number : List Str := ["value", "least", "most"]
def B_is_number : Mn.Env → Mem → Out := (sRet (vAnd (fIsi ["int"] (fVar 0)) (vAnd (vNot (fIsi ["bool"] (fVar 0))) (fChain gLe gLe (fVar 1) (fVar 0) (fVar 2)))))
def F_is_number : List D → Mem → Res D := fnD N_is_number B_is_number
abbrev N_has_only : List Str := ["text", "signs"]
def B_has_only : Mn.Env → Mem → Out := (sRet (f2 gEq (fM1 gStripC (fVar 0) (fVar 1)) (fC (.str ""))))
def F_has_only : List D → Mem → Res D := fnD N_has_only B_has_only
abbrev N_is_below : List Str := ["one", "other"]
def B_is_below : Mn.Env → Mem → Out := (sRet (fM1 gStarts (fVar 0) (f2 gAdd (fVar 1) (fC (.str "/")))))
def F_is_below : List D → Mem → Res D := fnD N_is_below B_is_below
abbrev N_tree_of_spots : List Str := ["spots", "texts", "lines", "least", "way", "number"]
def B_tree_of_spots : Mn.Env → Mem → Out := (sSeq (sSet 2 (fLst aNil))
    (sSeq (sSet 3 fDic0)
    (sSeq (sFor (fSeq2 (fCall gSorted (aCons (fVar 0) aNil))) (gN 4) (sSeq (sSet 5 (f2 gIx2 (fVar 0) (fVar 4)))
    (sIf (fBl (f2 gIsN (fVar 5) (fC .non))) (sExpr (fApp (fVar 2) (aCons (fTup (aCons (fVar 4) (aCons (fC (.str "folder")) aNil))) aNil))) (sIf (fBl (f2 (gIn2 false) (fVar 5) (fVar 3))) (sExpr (fApp (fVar 2) (aCons (fTup (aCons (fVar 4) (aCons (fC (.str "same")) (aCons (f2 gIx2 (fVar 3) (fVar 5)) aNil)))) aNil))) (sSeq (sExpr (fApp (fVar 2) (aCons (fTup (aCons (fVar 4) (aCons (fC (.str "file")) (aCons (f2 gIx2 (fVar 1) (fVar 5)) aNil)))) aNil)))
    (sSetIx2 (fVar 3) (fVar 5) (fVar 4)))))))
    (sRet (fCall gTupOf (aCons (fVar 2) aNil))))))
def F_tree_of_spots : List D → Mem → Res D := fnD N_tree_of_spots B_tree_of_spots
abbrev N_simple_deeds : List Str := ["deed"]
def B_simple_deeds : Mn.Env → Mem → Out := (sSeq (sIf (fBl (f2 gEq (f2 gIx2 (fVar 0) (fC (.int 0))) (fC (.str "bundle")))) (sRet (f2 gIx2 (fVar 0) (fC (.int 1)))) sPass)
    (sRet (fTup (aCons (fVar 0) aNil))))
def F_simple_deeds : List D → Mem → Res D := fnD N_simple_deeds B_simple_deeds
abbrev N_overwritten : List Str := ["text", "place", "contents"]
def B_overwritten : Mn.Env → Mem → Out := (sRet (f2 gAdd (f2 gAdd (fSl (fVar 0) oNone (oSome (fVar 1))) (fVar 2)) (fSl (fVar 0) (oSome (f2 gAdd (fVar 1) (fCall gLen (aCons (fVar 2) aNil)))) oNone)))
def F_overwritten : List D → Mem → Res D := fnD N_overwritten B_overwritten
abbrev N_is_bytes : List Str := ["value", "most", "item"]
def B_is_bytes : Mn.Env → Mem → Out := (sSeq (sIf (fOr (fNot (fTru (fIsi ["tuple"] (fVar 0)))) (fBl (f2 gGt (fCall gLen (aCons (fVar 0) aNil)) (fVar 1)))) (sRet (fC (.bl false))) sPass)
    (sSeq (sFor (fSeq2 (fVar 0)) (gN 2) (sIf (fOr (fNot (fTru (fIsi ["int"] (fVar 2)))) (fOr (fTru (fIsi ["bool"] (fVar 2))) (fNot (fBl (fChain gLe gLe (fC (.int 0)) (fVar 2) (fC (.int 255))))))) (sRet (fC (.bl false))) sPass))
    (sRet (fC (.bl true)))))
def F_is_bytes : List D → Mem → Res D := fnD N_is_bytes B_is_bytes
abbrev N_number_octets : List Str := ["number", "count", "found", "rest", "_"]
def B_number_octets : Mn.Env → Mem → Out := (sSeq (sSet 2 (fLst aNil))
    (sSeq (sSet 3 (fVar 0))
    (sSeq (sFor (fRng (aCons (fVar 1) aNil)) (gN 4) (sSeq (sExpr (fApp (fVar 2) (aCons (f2 gMod (fVar 3) (fC (.int 256))) aNil)))
    (sSet 3 (f2 gDiv (fVar 3) (fC (.int 256))))))
    (sRet (fCall gTupOf (aCons (fRev (fVar 2)) aNil))))))
def F_number_octets : List D → Mem → Res D := fnD N_number_octets B_number_octets
abbrev N_octets_number : List Str := ["some", "number", "octet"]
def B_octets_number : Mn.Env → Mem → Out := (sSeq (sSet 1 (fC (.int 0)))
    (sSeq (sFor (fSeq2 (fVar 0)) (gN 2) (sSet 1 (f2 gAdd (f2 gMul2 (fVar 1) (fC (.int 256))) (fVar 2))))
    (sRet (fVar 1))))
def F_octets_number : List D → Mem → Res D := fnD N_octets_number B_octets_number
abbrev N_text_octets : List Str := ["contents", "sign"]
def B_text_octets : Mn.Env → Mem → Out := (sRet (fCall gTupOf (aCons (fComp [1] (fSeq2 (fVar 0)) (gN 1) ftYes (fCall gOrd (aCons (fVar 1) aNil))) aNil)))
def F_text_octets : List D → Mem → Res D := fnD N_text_octets B_text_octets
abbrev N_octets_text : List Str := ["some", "sign_of", "signs", "sign", "octet"]
def B_octets_text : Mn.Env → Mem → Out := (sSeq (sSet 1 (fDcomp [3] (fSeq2 (fC (.str "abcdefghijklmnopqrstuvwxyzABCDEFGHIJKLMNOPQRSTUVWXYZ0123456789 .,:;=>/-+_()!?"))) (gN 3) ftYes (fCall gOrd (aCons (fVar 3) aNil)) (fVar 3)))
    (sSeq (sSet 2 (fComp [4] (fSeq2 (fVar 0)) (gN 4) ftYes (fGet1 (fVar 1) (fVar 4))))
    (sSeq (sIf (fBl (f2 (gIn2 false) (fC .non) (fVar 2))) (sRet (fC .non)) sPass)
    (sRet (fM1 gJoin (fC (.str "")) (fVar 2))))))
def F_octets_text : List D → Mem → Res D := fnD N_octets_text B_octets_text
abbrev N_sums_of : List Str := ["some", "plain", "weighed", "at", "octet"]
def B_sums_of : Mn.Env → Mem → Out := (sSeq (sSet 1 (fCall gSum2 (aCons (fVar 0) aNil)))
    (sSeq (sSet 2 (fCall gSum2 (aCons (fComp [3, 4] (fEnum (aCons (fVar 0) aNil)) (gTupT 2 (gsCons (gN 3) (gsCons (gN 4) gsNil))) ftYes (f2 gMul2 (f2 gAdd (fVar 3) (fC (.int 1))) (fVar 4))) aNil)))
    (sRet (fTup (aCons (f2 gMod (fVar 1) (fC (.int 257))) (aCons (f2 gMod (fVar 2) (fC (.int 257))) aNil))))))
def F_sums_of : List D → Mem → Res D := fnD N_sums_of B_sums_of
abbrev N_many_pieces : List Str := ["length"]
def B_many_pieces : Mn.Env → Mem → Out := (sRet (f2 gDiv (f2 gSub (f2 gAdd (fVar 0) (fC (.int 50))) (fC (.int 1))) (fC (.int 50))))
def F_many_pieces : List D → Mem → Res D := fnD N_many_pieces B_many_pieces
abbrev N_is_pair : List Str := ["value"]
def B_is_pair : Mn.Env → Mem → Out := (sRet (vAnd (fIsi ["tuple"] (fVar 0)) (f2 gEq (fCall gLen (aCons (fVar 0) aNil)) (fC (.int 2)))))
def F_is_pair : List D → Mem → Res D := fnD N_is_pair B_is_pair
abbrev N_padded : List Str := ["some", "count"]
def B_padded : Mn.Env → Mem → Out := (sRet (f2 gAdd (fVar 0) (f2 gMul2 (fTup (aCons (fC (.int 0)) aNil)) (f2 gSub (fVar 1) (fCall gLen (aCons (fVar 0) aNil))))))
def F_padded : List D → Mem → Res D := fnD N_padded B_padded
abbrev N_first_free : List Str := ["things"]
def B_first_free : Mn.Env → Mem → Out := (sRet (f2 gAdd (fC (.int 2)) (f2 gMul2 (fC (.int 2)) (fVar 0))))
def F_first_free : List D → Mem → Res D := fnD N_first_free B_first_free
abbrev N_side_page : List Str := ["thing", "side"]
def B_side_page : Mn.Env → Mem → Out := (sRet (f2 gAdd (f2 gAdd (fC (.int 2)) (f2 gMul2 (fC (.int 2)) (fVar 0))) (fVar 1)))
def F_side_page : List D → Mem → Res D := fnD N_side_page B_side_page
abbrev N_image_behind : List Str := ["image", "writes", "pages", "number", "page"]
def B_image_behind : Mn.Env → Mem → Out := (sSeq (sSet 2 (fCall gLst2 (aCons (fVar 0) aNil)))
    (sSeq (sFor (fSeq2 (fVar 1)) (gTupT 2 (gsCons (gN 3) (gsCons (gN 4) gsNil))) (sSetIx2 (fVar 2) (fVar 3) (fVar 4)))
    (sRet (fCall gTupOf (aCons (fVar 2) aNil)))))
def F_image_behind : List D → Mem → Res D := fnD N_image_behind B_image_behind
abbrev N_are_numbers : List Str := ["value", "item"]
def B_are_numbers : Mn.Env → Mem → Out := (sSeq (sIf (fOr (fNot (fTru (fIsi ["tuple"] (fVar 0)))) (fNot (fBl (fChain gLe gLe (fC (.int 1)) (fCall gLen (aCons (fVar 0) aNil)) (fC (.int 300)))))) (sRet (fC (.bl false))) sPass)
    (sRet (fCall gAll (aCons (fComp [1] (fSeq2 (fVar 0)) (gN 1) ftYes (vAnd (fIsi ["int"] (fVar 1)) (vAnd (vNot (fIsi ["bool"] (fVar 1))) (f2 gGe (fVar 1) (fC (.int 0)))))) aNil))))
def F_are_numbers : List D → Mem → Res D := fnD N_are_numbers B_are_numbers
abbrev N_pieces_of : List Str := ["text", "at"]
def B_pieces_of : Mn.Env → Mem → Out := (sRet (fComp [1] (fRng (aCons (fC (.int 0)) (aCons (fCall gLen (aCons (fVar 0) aNil)) (aCons (fC (.int 50)) aNil)))) (gN 1) ftYes (fSl (fVar 0) (oSome (fVar 1)) (oSome (f2 gAdd (fVar 1) (fC (.int 50)))))))
def F_pieces_of : List D → Mem → Res D := fnD N_pieces_of B_pieces_of
abbrev N_greatest_needs : List Str := ["pairs", "needs", "thing", "stamp"]
def B_greatest_needs : Mn.Env → Mem → Out := (sSeq (sSet 1 fDic0)
    (sSeq (sFor (fSeq2 (fVar 0)) (gTupT 2 (gsCons (gN 2) (gsCons (gN 3) gsNil))) (sIf (fBl (f2 gGt (fVar 3) (fGet2 (fVar 1) (fVar 2) (fNeg (fC (.int 1)))))) (sSetIx2 (fVar 1) (fVar 2) (fVar 3)) sPass))
    (sRet (fVar 1))))
def F_greatest_needs : List D → Mem → Res D := fnD N_greatest_needs B_greatest_needs
abbrev N_needs_but : List Str := ["needs", "thing", "other"]
def B_needs_but : Mn.Env → Mem → Out := (sRet (fCall gTupOf (aCons (fComp [2] (fSeq2 (fCall gSorted (aCons (fVar 0) aNil))) (gN 2) (fBl (f2 gNe (fVar 2) (fVar 1))) (fTup (aCons (fVar 2) (aCons (f2 gIx2 (fVar 0) (fVar 2)) aNil)))) aNil)))
def F_needs_but : List D → Mem → Res D := fnD N_needs_but B_needs_but
abbrev N_is_folder_up : List Str := ["up", "thing"]
def B_is_folder_up : Mn.Env → Mem → Out := (sRet (vAnd (f2 gLt (fVar 1) (fCall gLen (aCons (fVar 0) aNil))) (f2 gEq (f2 gIx2 (f2 gIx2 (fVar 0) (fVar 1)) (fC (.int 2))) (fC (.str "folder")))))
def F_is_folder_up : List D → Mem → Res D := fnD N_is_folder_up B_is_folder_up
abbrev N_check_period : List Str := ["period"]
def B_check_period : Mn.Env → Mem → Out := (sIf (fBl (f2 gGe (fVar 0) (fC (.int 16777215)))) (sRaise "NoRoom") sPass)
def F_check_period : List D → Mem → Res D := fnD N_check_period B_check_period
abbrev N_law_taken : List Str := ["row", "many", "found", "cell"]
def B_law_taken : Mn.Env → Mem → Out := (sSeq (sIf (fBl (f2 gGt (f2 gIx2 (fVar 0) (fC (.int 3))) (fC (.int 0)))) (sSeq (sSet 2 (f2 gMod (fCall gInt (aCons (f2 gIx2 (fVar 0) (fC (.int 3))) aNil)) (fVar 1)))
    (sSeq (sSetIx2 (fVar 0) (fC (.int 3)) (f2 gDiv (f2 gIx2 (fVar 0) (fC (.int 3))) (fVar 1)))
    (sRet (fVar 2)))) sPass)
    (sSeq (sSetIx2 (fVar 0) (fC (.int 1)) (f2 gAdd (f2 gIx2 (fVar 0) (fC (.int 1))) (fC (.int 1))))
    (sSeq (sIf (fBl (f2 gGt (f2 gIx2 (fVar 0) (fC (.int 1))) (fCall gLen (aCons (f2 gIx2 (fVar 0) (fC (.int 0))) aNil)))) (sSeq (sSetIx2 (fVar 0) (fC (.int 2)) (f2 gMod (fCall gInt (aCons (f2 gAdd (f2 gMul2 (f2 gIx2 (fVar 0) (fC (.int 2))) (fC (.int 48271))) (fC (.int 11))) aNil)) (fC (.int 2147483647))))
    (sRet (f2 gMod (fCall gInt (aCons (f2 gDiv (f2 gIx2 (fVar 0) (fC (.int 2))) (fC (.int 7))) aNil)) (fVar 1)))) sPass)
    (sSeq (sSet 3 (f2 gIx2 (f2 gIx2 (fVar 0) (fC (.int 0))) (f2 gSub (f2 gIx2 (fVar 0) (fC (.int 1))) (fC (.int 1)))))
    (sSeq (sSetIx2 (fVar 0) (fC (.int 2)) (f2 gMod (fCall gInt (aCons (f2 gAdd (f2 gAdd (f2 gMul2 (f2 gIx2 (fVar 0) (fC (.int 2))) (fC (.int 48271))) (fVar 3)) (fC (.int 11))) aNil)) (fC (.int 2147483647))))
    (sSeq (sIf (fBl (f2 gGe (fVar 3) (f2 gPow (fC (.int 10)) (fC (.int 18))))) (sSetIx2 (fVar 0) (fC (.int 3)) (f2 gDiv (fVar 3) (fVar 1))) sPass)
    (sRet (f2 gMod (fCall gInt (aCons (fVar 3) aNil)) (fVar 1)))))))))
def F_law_taken : List D → Mem → Res D := fnD N_law_taken B_law_taken
abbrev N_law_up : List Str := ["way"]
def B_law_up : Mn.Env → Mem → Out := (sRet (fSl (fVar 0) oNone (oSome (fM1 gRfind (fVar 0) (fC (.str "/"))))))
def F_law_up : List D → Mem → Res D := fnD N_law_up B_law_up
abbrev N_law_last : List Str := ["way"]
def B_law_last : Mn.Env → Mem → Out := (sRet (fSl (fVar 0) (oSome (f2 gAdd (fM1 gRfind (fVar 0) (fC (.str "/"))) (fC (.int 1)))) oNone))
def F_law_last : List D → Mem → Res D := fnD N_law_last B_law_last
abbrev N_law_begun : List Str := ["world", "mark"]
def B_law_begun : Mn.Env → Mem → Out := (sSeq (sAsgM (fTup (aCons (fVar 1) (aCons (fLst aNil) (aCons (fLst aNil) (aCons (fLst aNil) aNil))))) (hTup 4 (hCons (hSub (fVar 0) (fC (.str "mark"))) (hCons (hSub (fVar 0) (fC (.str "wrote"))) (hCons (hSub (fVar 0) (fC (.str "saw"))) (hCons (hSub (fVar 0) (fC (.str "missed"))) hNil))))))
    (sRet (fVar 0)))
def F_law_begun : List D → Mem → Res D := fnD N_law_begun B_law_begun
abbrev N_law_above : List Str := ["world", "way", "here", "name"]
def B_law_above : Mn.Env → Mem → Out := (sSeq (sSet 2 (fC (.str "")))
    (sSeq (sExpr (fApp (f2 gIx2 (fVar 0) (fC (.str "saw"))) (aCons (fC (.int 0)) aNil)))
    (sSeq (sFor (fSeq2 (fSl (fM1 gSplit (fSl (fVar 1) (oSome (fC (.int 1))) oNone) (fC (.str "/"))) oNone (oSome (fNeg (fC (.int 1)))))) (gN 3) (sSeq (sSet 2 (f2 gAdd (f2 gAdd (fVar 2) (fC (.str "/"))) (fVar 3)))
    (sSeq (sIf (fBl (f2 (gIn2 true) (fVar 2) (f2 gIx2 (fVar 0) (fC (.str "ways"))))) (sRet (fC (.str "NotThere"))) sPass)
    (sSeq (sIf (fBl (f2 gNotN (f2 gIx2 (f2 gIx2 (fVar 0) (fC (.str "texts"))) (f2 gIx2 (f2 gIx2 (fVar 0) (fC (.str "ways"))) (fVar 2))) (fC .non))) (sRet (fC (.str "NotFolder"))) sPass)
    (sExpr (fApp (f2 gIx2 (fVar 0) (fC (.str "saw"))) (aCons (f2 gIx2 (f2 gIx2 (fVar 0) (fC (.str "ways"))) (fVar 2)) aNil)))))))
    (sRet (fC (.str ""))))))
def F_law_above : List D → Mem → Res D := fnD N_law_above B_law_above
abbrev N_law_fill : List Str := ["world", "deed", "number", "old", "new"]
def B_law_fill : Mn.Env → Mem → Out := (sSeq (sSet 3 (f2 gIx2 (f2 gIx2 (fVar 0) (fC (.str "texts"))) (fVar 2)))
    (sSeq (sIf (fBl (f2 gGt (f2 gIx2 (fVar 1) (fC (.int 2))) (fCall gLen (aCons (fVar 3) aNil)))) (sRet (fC (.str "BadPlace"))) sPass)
    (sSeq (sSet 4 (fSl (fVar 3) oNone (oSome (f2 gIx2 (fVar 1) (fC (.int 2))))))
    (sSeq (sIf (fBl (f2 gEq (f2 gIx2 (fVar 1) (fC (.int 0))) (fC (.str "write")))) (sSet 4 (f2 gAdd (f2 gAdd (fVar 4) (f2 gIx2 (fVar 1) (fC (.int 3)))) (fSl (fVar 3) (oSome (f2 gAdd (f2 gIx2 (fVar 1) (fC (.int 2))) (fCall gLen (aCons (f2 gIx2 (fVar 1) (fC (.int 3))) aNil)))) oNone))) sPass)
    (sSeq (sIf (fBl (f2 gGt (fCall gLen (aCons (fVar 4) aNil)) (fC (.int 2000)))) (sRet (fC (.str "TooLong"))) sPass)
    (sSeq (sSetIx2 (f2 gIx2 (fVar 0) (fC (.str "texts"))) (fVar 2) (fVar 4))
    (sSeq (sExpr (fApp (f2 gIx2 (fVar 0) (fC (.str "wrote"))) (aCons (fVar 2) aNil)))
    (sRet (fC (.str ""))))))))))
def F_law_fill : List D → Mem → Res D := fnD N_law_fill B_law_fill
abbrev N_law_tree : List Str := ["world", "found", "least", "way", "number"]
def B_law_tree : Mn.Env → Mem → Out := (sSeq (sPar 1 2 (aCons (fLst aNil) (aCons fDic0 aNil)))
    (sSeq (sFor (fSeq2 (fCall gSorted (aCons (fComp [3] (fSeq2 (fCall gLst2 (aCons (f2 gIx2 (fVar 0) (fC (.str "ways"))) aNil))) (gN 3) (fBl (f2 gNe (fVar 3) (fC (.str "")))) (fVar 3)) aNil))) (gN 3) (sSeq (sSet 4 (f2 gIx2 (f2 gIx2 (fVar 0) (fC (.str "ways"))) (fVar 3)))
    (sIf (fBl (f2 gIsN (f2 gIx2 (f2 gIx2 (fVar 0) (fC (.str "texts"))) (fVar 4)) (fC .non))) (sExpr (fApp (fVar 1) (aCons (fTup (aCons (fVar 3) (aCons (fC (.str "folder")) aNil))) aNil))) (sIf (fBl (f2 (gIn2 false) (fVar 4) (fVar 2))) (sExpr (fApp (fVar 1) (aCons (fTup (aCons (fVar 3) (aCons (fC (.str "same")) (aCons (f2 gIx2 (fVar 2) (fVar 4)) aNil)))) aNil))) (sSeq (sSetIx2 (fVar 2) (fVar 4) (fVar 3))
    (sExpr (fApp (fVar 1) (aCons (fTup (aCons (fVar 3) (aCons (fC (.str "file")) (aCons (f2 gIx2 (f2 gIx2 (fVar 0) (fC (.str "texts"))) (fVar 4)) aNil)))) aNil))))))))
    (sRet (fCall gTupOf (aCons (fVar 1) aNil)))))
def F_law_tree : List D → Mem → Res D := fnD N_law_tree B_law_tree
abbrev N_law_needs : List Str := ["worlds", "found", "j", "later", "some", "i", "wrote", "one"]
def B_law_needs : Mn.Env → Mem → Out := (sSeq (sSet 1 (fLst aNil))
    (sSeq (sFor (fRng (aCons (f2 gSub (fCall gLen (aCons (fVar 0) aNil)) (fC (.int 1))) aNil)) (gN 2) (sSeq (sPar 3 4 (aCons (f2 gIx2 (fVar 0) (f2 gAdd (fVar 2) (fC (.int 1)))) (aCons fDic0 aNil)))
    (sSeq (sFor (fRng (aCons (fVar 2) aNil)) (gN 5) (sSeq (sSet 6 (f2 gIx2 (f2 gIx2 (fVar 0) (f2 gAdd (fVar 5) (fC (.int 1)))) (fC (.str "wrote"))))
    (sSeq (sIf (fBl (f2 gNe (fComp [7] (fSeq2 (fVar 6)) (gN 7) (fOr (fBl (f2 (gIn2 false) (fVar 7) (f2 gIx2 (fVar 3) (fC (.str "wrote"))))) (fBl (f2 (gIn2 false) (fVar 7) (f2 gIx2 (fVar 3) (fC (.str "saw")))))) (fVar 7)) (fLst aNil))) (sSetIx2 (fVar 4) (fVar 5) (fC (.bl true))) sPass)
    (sIf (fBl (f2 gNe (fComp [7] (fSeq2 (f2 gIx2 (fVar 3) (fC (.str "missed")))) (gN 7) (fAnd (fBl (f2 (gIn2 false) (f2 gIx2 (fVar 7) (fC (.int 0))) (fVar 6))) (fAnd (fBl (f2 gGe (f2 gIx2 (fVar 7) (fC (.int 1))) (fVar 5))) (fBl (f2 gLt (f2 gIx2 (fVar 7) (fC (.int 1))) (fVar 2))))) (fVar 7)) (fLst aNil))) (sSetIx2 (fVar 4) (fVar 5) (fC (.bl true))) sPass))))
    (sSeq (sFor (fSeq2 (fCall gLst2 (aCons (fVar 4) aNil))) (gN 5) (sFor (fSeq2 (f2 gIx2 (fVar 1) (fVar 5))) (gN 7) (sSetIx2 (fVar 4) (fVar 7) (fC (.bl true)))))
    (sExpr (fApp (fVar 1) (aCons (fCall gSorted (aCons (fCall gLst2 (aCons (fVar 4) aNil)) aNil)) aNil)))))))
    (sRet (fVar 1))))
def F_law_needs : List D → Mem → Res D := fnD N_law_needs B_law_needs
abbrev N_law_pasts : List Str := ["needs", "found", "j", "past", "one"]
def B_law_pasts : Mn.Env → Mem → Out := (sSeq (sSet 1 (fLst (aCons (fTup aNil) aNil)))
    (sSeq (sFor (fRng (aCons (fCall gLen (aCons (fVar 0) aNil)) aNil)) (gN 2) (sSet 1 (f2 gAdd (fVar 1) (fComp [3] (fSeq2 (fVar 1)) (gN 3) (fBl (f2 gEq (fComp [4] (fSeq2 (f2 gIx2 (fVar 0) (fVar 2))) (gN 4) (fBl (f2 (gIn2 true) (fVar 4) (fVar 3))) (fVar 4)) (fLst aNil))) (f2 gAdd (fVar 3) (fTup (aCons (fVar 2) aNil)))))))
    (sRet (fCall gSorted (aCons (fVar 1) aNil)))))
def F_law_pasts : List D → Mem → Res D := fnD N_law_pasts B_law_pasts
abbrev N_folder_of : List Str := ["way"]
def B_folder_of : Mn.Env → Mem → Out := (sRet (vOr (f2 gIx2 (fM1 gRpart (fVar 0) (fC (.str "/"))) (fC (.int 0))) (fC (.str "/"))))
def F_folder_of : List D → Mem → Res D := fnD N_folder_of B_folder_of
abbrev N_own_name : List Str := ["way"]
def B_own_name : Mn.Env → Mem → Out := (sRet (f2 gIx2 (fM1 gRpart (fVar 0) (fC (.str "/"))) (fC (.int 2))))
def F_own_name : List D → Mem → Res D := fnD N_own_name B_own_name
abbrev N_line_at : List Str := ["tree", "way", "line"]
def B_line_at : Mn.Env → Mem → Out := (sSeq (sFor (fSeq2 (fVar 0)) (gN 2) (sIf (fBl (f2 gEq (f2 gIx2 (fVar 2) (fC (.int 0))) (fVar 1))) (sRet (fVar 2)) sPass))
    (sRet (fC .non)))
def F_line_at : List D → Mem → Res D := fnD N_line_at B_line_at
abbrev N_lines_without : List Str := ["lines", "others", "known", "line"]
def B_lines_without : Mn.Env → Mem → Out := (sSeq (sSet 2 (fDcomp [3] (fSeq2 (fVar 1)) (gN 3) ftYes (f2 gIx2 (fVar 3) (fC (.int 0))) (fVar 3)))
    (sRet (fCall gTupOf (aCons (fComp [3] (fSeq2 (fVar 0)) (gN 3) (fOr (fBl (f2 (gIn2 true) (f2 gIx2 (fVar 3) (fC (.int 0))) (fVar 2))) (fBl (f2 gNe (f2 gIx2 (fVar 2) (f2 gIx2 (fVar 3) (fC (.int 0)))) (fVar 3)))) (fVar 3)) aNil))))
def F_lines_without : List D → Mem → Res D := fnD N_lines_without B_lines_without
abbrev N_law_in_bytes : List Str := ["number", "count", "found", "turn"]
def B_law_in_bytes : Mn.Env → Mem → Out := (sSeq (sSet 2 (fLst aNil))
    (sSeq (sFor (fRng (aCons (fVar 1) aNil)) (gN 3) (sSeq (sSet 2 (f2 gAdd (fLst (aCons (f2 gMod (fCall gInt (aCons (fVar 0) aNil)) (fC (.int 256))) aNil)) (fVar 2)))
    (sSet 0 (f2 gDiv (fVar 0) (fC (.int 256))))))
    (sRet (fVar 2))))
def F_law_in_bytes : List D → Mem → Res D := fnD N_law_in_bytes B_law_in_bytes
abbrev N_law_many_tails : List Str := ["many", "n"]
def B_law_many_tails : Mn.Env → Mem → Out := (sRet (f2 gIx2 (fComp [1] (fRng (aCons (fC (.int 20)) aNil)) (gN 1) (fBl (f2 gGe (f2 gAdd (f2 gSub (fC (.int 49)) (fVar 1)) (f2 gMul2 (fC (.int 54)) (fVar 1))) (fVar 0))) (fVar 1)) (fC (.int 0))))
def F_law_many_tails : List D → Mem → Res D := fnD N_law_many_tails B_law_many_tails
abbrev N_law_counting : List Str := ["safe", "opened", "cards", "many", "some", "lots", "found", "thing", "lot", "stamps", "side", "good", "needs", "one", "stamp"]
def B_law_counting : Mn.Env → Mem → Out := (sSeq (sSet 4 (fComp [7] (fRng (aCons (fVar 3) aNil)) (gN 7) (fAnd (fBl (f2 gNotN (f2 gIx2 (fVar 0) (fVar 7)) (fC .non))) (fBl (f2 gNotN (f2 gIx2 (fVar 1) (fVar 7)) (fC .non)))) (fVar 7)))
    (sSeq (sPar 5 6 (aCons (fLst (aCons (fLst aNil) aNil)) (aCons (fLst aNil) aNil)))
    (sSeq (sFor (fSeq2 (fVar 4)) (gN 7) (sSet 5 (f2 gAdd (fVar 5) (fComp [8] (fSeq2 (fVar 5)) (gN 8) ftYes (f2 gAdd (fVar 8) (fLst (aCons (fVar 7) aNil)))))))
    (sSeq (sFor (fSeq2 (fVar 5)) (gN 8) (sSeq (sSet 9 (f2 gMul2 (fLst (aCons (fNeg (fC (.int 1))) aNil)) (fVar 3)))
    (sSeq (sFor (fRng (aCons (fVar 3) aNil)) (gN 7) (sSeq (sSet 10 (fIf (fBl (f2 (gIn2 false) (fVar 7) (fVar 8))) (f2 gIx2 (fVar 1) (fVar 7)) (f2 gIx2 (fVar 0) (fVar 7))))
    (sSetIx2 (fVar 9) (fVar 7) (fIf (fBl (f2 gIsN (fVar 10) (fC .non))) (fNeg (fC (.int 1))) (f2 gIx2 (f2 gIx2 (fVar 2) (fTup (aCons (fVar 7) (aCons (fVar 10) aNil)))) (fC (.int 0)))))))
    (sSeq (sSet 11 (fC (.bl true)))
    (sSeq (sFor (fSeq2 (fVar 8)) (gN 7) (sSeq (sSet 12 (f2 gIx2 (f2 gIx2 (fVar 2) (fTup (aCons (fVar 7) (aCons (f2 gIx2 (fVar 1) (fVar 7)) aNil)))) (fC (.int 6))))
    (sSet 11 (vAnd (fVar 11) (f2 gEq (fComp [13, 14] (fSeq2 (fVar 12)) (gTupT 2 (gsCons (gN 13) (gsCons (gN 14) gsNil))) (fOr (fBl (f2 gGe (fVar 13) (fVar 3))) (fBl (f2 gLt (f2 gIx2 (fVar 9) (fVar 13)) (fVar 14)))) (fVar 13)) (fLst aNil))))))
    (sSet 6 (fIf (fAnd (fTru (fVar 11)) (fBl (f2 gGt (fCall gLen (aCons (fVar 8) aNil)) (fCall gLen (aCons (fVar 6) aNil))))) (fVar 8) (fVar 6))))))))
    (sRet (fVar 6))))))
def F_law_counting : List D → Mem → Res D := fnD N_law_counting B_law_counting
abbrev N_law_wrong_places : List Str := ["up", "many", "found", "seen", "thing", "places", "wrong", "folder", "name", "here", "turn", "good"]
def B_law_wrong_places : Mn.Env → Mem → Out := (sSeq (sPar 2 3 (aCons (fLst aNil) (aCons (fCall gLst2 (aCons (f2 gIx2 (f2 gIx2 (fVar 0) (fC (.int 0))) (fC (.int 3))) aNil)) aNil)))
    (sSeq (sFor (fRng (aCons (fC (.int 1)) (aCons (fVar 1) aNil))) (gN 4) (sSeq (sPar 5 6 (aCons (f2 gIx2 (f2 gIx2 (fVar 0) (fVar 4)) (fC (.int 3))) (aCons (vAnd (f2 gEq (f2 gIx2 (f2 gIx2 (fVar 0) (fVar 4)) (fC (.int 3))) (fTup aNil)) (f2 gNe (f2 gIx2 (f2 gIx2 (fVar 0) (fVar 4)) (fC (.int 2))) (fC (.str "none")))) aNil)))
    (sSeq (sFor (fSeq2 (fVar 5)) (gTupT 2 (gsCons (gN 7) (gsCons (gN 8) gsNil))) (sSeq (sSet 6 (vOr (fVar 6) (vOr (f2 gGe (fVar 7) (fVar 1)) (vOr (f2 gNe (f2 gIx2 (f2 gIx2 (fVar 0) (fVar 7)) (fC (.int 2))) (fC (.str "folder"))) (f2 (gIn2 false) (fTup (aCons (fVar 7) (aCons (fVar 8) aNil))) (fVar 3))))))
    (sExpr (fApp (fVar 3) (aCons (fTup (aCons (fVar 7) (aCons (fVar 8) aNil))) aNil)))))
    (sSet 2 (f2 gAdd (fVar 2) (f2 gMul2 (fLst (aCons (fTup (aCons (fC (.str "place")) (aCons (fVar 4) aNil))) aNil)) (fCall gInt (aCons (fVar 6) aNil))))))))
    (sSeq (sFor (fRng (aCons (fC (.int 1)) (aCons (fVar 1) aNil))) (gN 4) (sSeq (sSet 9 (fVar 4))
    (sSeq (sFor (fRng (aCons (fVar 1) aNil)) (gN 10) (sIf (fAnd (fBl (f2 gNe (fVar 9) (fC (.int 0)))) (fBl (f2 gNotN (fVar 9) (fC .non)))) (sSeq (sSet 11 (vAnd (f2 gLt (fVar 9) (fVar 1)) (vAnd (f2 gEq (f2 gIx2 (f2 gIx2 (fVar 0) (fVar 9)) (fC (.int 2))) (fC (.str "folder"))) (f2 gNe (f2 gIx2 (f2 gIx2 (fVar 0) (fVar 9)) (fC (.int 3))) (fTup aNil)))))
    (sSet 9 (fIf (fTru (fVar 11)) (f2 gIx2 (f2 gIx2 (f2 gIx2 (f2 gIx2 (fVar 0) (fVar 9)) (fC (.int 3))) (fC (.int 0))) (fC (.int 0))) (fC .non)))) sPass))
    (sSet 2 (f2 gAdd (fVar 2) (f2 gMul2 (fLst (aCons (fTup (aCons (fC (.str "ring")) (aCons (fVar 4) aNil))) aNil)) (fCall gInt (aCons (vAnd (f2 gEq (f2 gIx2 (f2 gIx2 (fVar 0) (fVar 4)) (fC (.int 2))) (fC (.str "folder"))) (f2 gNe (fVar 9) (fC (.int 0)))) aNil))))))))
    (sRet (fVar 2)))))
def F_law_wrong_places : List D → Mem → Res D := fnD N_law_wrong_places B_law_wrong_places
abbrev N_law_rested : List Str := ["ship", "used", "thing", "part", "page"]
def B_law_rested : Mn.Env → Mem → Out := (sSeq (sAsgM (fTup (aCons fDic0 (aCons fDic0 aNil))) (hTup 2 (hCons (hSub (fVar 0) (fC (.str "busy"))) (hCons (hSub (fVar 0) (fC (.str "leaving"))) hNil))))
    (sSeq (sSetIx2 (f2 gIx2 (fVar 0) (fC (.str "world"))) (fC (.str "left")) fDic0)
    (sSeq (sSet 1 (fLst aNil))
    (sSeq (sFor (fRng (aCons (fCall gLen (aCons (f2 gIx2 (fVar 0) (fC (.str "cards"))) aNil)) aNil)) (gN 2) (sSet 1 (f2 gAdd (f2 gAdd (fVar 1) (fComp [3] (fSeq2 (f2 gIx2 (f2 gIx2 (f2 gIx2 (fVar 0) (fC (.str "cards"))) (fVar 2)) (fC (.int 5)))) (gN 3) ftYes (f2 gIx2 (fVar 3) (fC (.int 0))))) (fCall gLst2 (aCons (f2 gIx2 (f2 gIx2 (fVar 0) (fC (.str "tails"))) (fVar 2)) aNil)))))
    (sSeq (sSetIx2 (fVar 0) (fC (.str "pages")) (fComp [4] (fRng (aCons (f2 gIx2 (fVar 0) (fC (.str "first"))) (aCons (f2 gIx2 (fVar 0) (fC (.str "last"))) aNil))) (gN 4) (fBl (f2 (gIn2 true) (fVar 4) (fVar 1))) (fVar 4)))
    (sRet (fVar 0)))))))
def F_law_rested : List D → Mem → Res D := fnD N_law_rested B_law_rested
abbrev N_law_owed : List Str := ["ship", "later", "stamp", "found", "pairs", "number", "thing", "mark", "one"]
def B_law_owed : Mn.Env → Mem → Out := (sSeq (sPar 3 4 (aCons fDic0 (aCons (fLst aNil) aNil)))
    (sSeq (sFor (fSeq2 (f2 gAdd (f2 gIx2 (fVar 1) (fC (.str "wrote"))) (f2 gIx2 (fVar 1) (fC (.str "saw"))))) (gN 5) (sSeq (sSet 6 (fGet2 (f2 gIx2 (fVar 0) (fC (.str "thing"))) (fVar 5) (fC .non)))
    (sIf (fBl (f2 (gIn2 false) (fVar 6) (f2 gIx2 (fVar 0) (fC (.str "busy"))))) (sSet 4 (f2 gAdd (f2 gAdd (fVar 4) (fLst (aCons (fTup (aCons (fVar 6) (aCons (f2 gIx2 (f2 gIx2 (f2 gIx2 (fVar 0) (fC (.str "cards"))) (fVar 6)) (fC (.int 0))) aNil))) aNil))) (fCall gLst2 (aCons (f2 gIx2 (f2 gIx2 (f2 gIx2 (fVar 0) (fC (.str "cards"))) (fVar 6)) (fC (.int 6))) aNil)))) sPass)))
    (sSeq (sFor (fSeq2 (f2 gIx2 (fVar 1) (fC (.str "missed")))) (gTupT 2 (gsCons (gN 5) (gsCons (gN 7) gsNil))) (sIf (fBl (f2 gNe (fVar 7) (fVar 2))) (sSet 4 (f2 gAdd (f2 gAdd (fVar 4) (fLst (aCons (fTup (aCons (f2 gIx2 (f2 gIx2 (fVar 0) (fC (.str "thing"))) (fVar 5)) (aCons (fVar 7) aNil))) aNil))) (fCall gLst2 (aCons (f2 gIx2 (f2 gIx2 (fVar 0) (fC (.str "leaving"))) (fTup (aCons (fVar 5) (aCons (fVar 7) aNil)))) aNil)))) sPass))
    (sSeq (sFor (fSeq2 (fVar 4)) (gTupT 2 (gsCons (gN 6) (gsCons (gN 8) gsNil))) (sSetIx2 (fVar 3) (fVar 6) (fCall gMax (aCons (fVar 8) (aCons (fGet2 (fVar 3) (fVar 6) (fC (.int 0))) aNil)))))
    (sRet (fVar 3))))))
def F_law_owed : List D → Mem → Res D := fnD N_law_owed B_law_owed
abbrev N_is_stamp : List Str := ["value"]
def B_is_stamp : Mn.Env → Mem → Out := (sRet (fCall F_is_number (aCons (fVar 0) (aCons (fC (.int 0)) (aCons (fC (.int 16777215)) aNil)))))
def F_is_stamp : List D → Mem → Res D := fnD N_is_stamp B_is_stamp
abbrev N_is_thing : List Str := ["value"]
def B_is_thing : Mn.Env → Mem → Out := (sRet (fCall F_is_number (aCons (fVar 0) (aCons (fC (.int 0)) (aCons (f2 gSub (fC (.int 24)) (fC (.int 1))) aNil)))))
def F_is_thing : List D → Mem → Res D := fnD N_is_thing B_is_thing
abbrev N_is_page_number : List Str := ["value"]
def B_is_page_number : Mn.Env → Mem → Out := (sRet (fCall F_is_number (aCons (fVar 0) (aCons (fC (.int 0)) (aCons (f2 gSub (fC (.int 250)) (fC (.int 1))) aNil)))))
def F_is_page_number : List D → Mem → Res D := fnD N_is_page_number B_is_page_number
abbrev N_is_name : List Str := ["value"]
def B_is_name : Mn.Env → Mem → Out := (sRet (vAnd (fIsi ["str"] (fVar 0)) (vAnd (fChain gLe gLe (fC (.int 1)) (fCall gLen (aCons (fVar 0) aNil)) (fC (.int 8))) (fCall F_has_only (aCons (fVar 0) (aCons (fC (.str "abcdefghijklmnopqrstuvwxyz")) aNil))))))
def F_is_name : List D → Mem → Res D := fnD N_is_name B_is_name
abbrev N_is_contents : List Str := ["value"]
def B_is_contents : Mn.Env → Mem → Out := (sRet (vAnd (fIsi ["str"] (fVar 0)) (vAnd (f2 gLe (fCall gLen (aCons (fVar 0) aNil)) (fC (.int 2000))) (fCall F_has_only (aCons (fVar 0) (aCons (fC (.str "abcdefghijklmnopqrstuvwxyzABCDEFGHIJKLMNOPQRSTUVWXYZ0123456789 .,:;=>/-+_()!?")) aNil))))))
def F_is_contents : List D → Mem → Res D := fnD N_is_contents B_is_contents
abbrev N_many_made : List Str := ["deed", "simple"]
def B_many_made : Mn.Env → Mem → Out := (sRet (fCall gLen (aCons (fComp [1] (fSeq2 (fCall F_simple_deeds (aCons (fVar 0) aNil))) (gN 1) (fBl (f2 (gIn2 false) (f2 gIx2 (fVar 1) (fC (.int 0))) (fTup (aCons (fC (.str "folder")) (aCons (fC (.str "file")) aNil))))) (fVar 1)) aNil)))
def F_many_made : List D → Mem → Res D := fnD N_many_made B_many_made
abbrev N_octets_with_check : List Str := ["some", "plain", "weighed"]
def B_octets_with_check : Mn.Env → Mem → Out := (sSeq (sAsg (fCall F_sums_of (aCons (fVar 0) aNil)) (gTupT 2 (gsCons (gN 1) (gsCons (gN 2) gsNil))))
    (sRet (f2 gAdd (f2 gAdd (fVar 0) (fCall F_number_octets (aCons (fVar 1) (aCons (fC (.int 2)) aNil)))) (fCall F_number_octets (aCons (fVar 2) (aCons (fC (.int 2)) aNil))))))
def F_octets_with_check : List D → Mem → Res D := fnD N_octets_with_check B_octets_with_check
abbrev N_is_page : List Str := ["value"]
def B_is_page : Mn.Env → Mem → Out := (sRet (vOr (f2 gIsN (fVar 0) (fC .non)) (vAnd (fCall F_is_bytes (aCons (fVar 0) (aCons (fC (.int 64)) aNil))) (f2 gEq (fCall gLen (aCons (fVar 0) aNil)) (fC (.int 64))))))
def F_is_page : List D → Mem → Res D := fnD N_is_page B_is_page
abbrev N_are_bytes : List Str := ["value", "count"]
def B_are_bytes : Mn.Env → Mem → Out := (sRet (vAnd (fCall F_is_bytes (aCons (fVar 0) (aCons (fVar 1) aNil))) (f2 gEq (fCall gLen (aCons (fVar 0) aNil)) (fVar 1))))
def F_are_bytes : List D → Mem → Res D := fnD N_are_bytes B_are_bytes
abbrev N_card_octets : List Str := ["told", "_", "thing", "stamp", "period", "length", "tails", "some", "ahead"]
def B_card_octets : Mn.Env → Mem → Out := (sSeq (sAsg (fVar 0) (gTupT 7 (gsCons (gN 1) (gsCons (gN 2) (gsCons (gN 3) (gsCons (gN 4) (gsCons (gN 5) (gsCons (gN 6) (gsCons (gN 7) gsNil)))))))))
    (sSeq (sSet 8 (f2 gAdd (f2 gAdd (f2 gAdd (fTup (aCons (fC (.int 2)) (aCons (fVar 2) aNil))) (fCall F_number_octets (aCons (fVar 3) (aCons (fC (.int 3)) aNil)))) (fCall F_number_octets (aCons (fVar 4) (aCons (fC (.int 3)) aNil)))) (fCall F_number_octets (aCons (fVar 5) (aCons (fC (.int 2)) aNil)))))
    (sRet (f2 gAdd (f2 gAdd (f2 gAdd (fVar 8) (fTup (aCons (fCall gLen (aCons (fVar 6) aNil)) aNil))) (fVar 6)) (fVar 7)))))
def F_card_octets : List D → Mem → Res D := fnD N_card_octets B_card_octets
abbrev N_guessed : List Str := ["page", "stamp", "behind", "period", "length"]
def B_guessed : Mn.Env → Mem → Out := (sSeq (sSet 1 (fCall F_octets_number (aCons (fSl (fVar 0) (oSome (fC (.int 2))) (oSome (fC (.int 5)))) aNil)))
    (sSeq (sIf (fBl (f2 gEq (f2 gIx2 (fVar 0) (fC (.int 0))) (fC (.int 0)))) (sRet (fTup (aCons (fC (.str "blank")) aNil))) sPass)
    (sSeq (sIf (fBl (f2 gEq (f2 gIx2 (fVar 0) (fC (.int 0))) (fC (.int 1)))) (sRet (fTup (aCons (fC (.str "head")) (aCons (fCall F_octets_number (aCons (fSl (fVar 0) (oSome (fC (.int 1))) (oSome (fC (.int 4)))) aNil)) (aCons (f2 gIx2 (fVar 0) (fC (.int 4))) (aCons (f2 gIx2 (fVar 0) (fC (.int 5))) (aCons (fCall F_octets_number (aCons (fSl (fVar 0) (oSome (fC (.int 6))) (oSome (fC (.int 11)))) aNil)) aNil))))))) sPass)
    (sSeq (sIf (fBl (f2 gEq (f2 gIx2 (fVar 0) (fC (.int 0))) (fC (.int 2)))) (sSeq (sSet 2 (f2 gAdd (fC (.int 11)) (f2 gIx2 (fVar 0) (fC (.int 10)))))
    (sSeq (sSet 3 (fCall F_octets_number (aCons (fSl (fVar 0) (oSome (fC (.int 5))) (oSome (fC (.int 8)))) aNil)))
    (sSeq (sSet 4 (fCall F_octets_number (aCons (fSl (fVar 0) (oSome (fC (.int 8))) (oSome (fC (.int 10)))) aNil)))
    (sRet (fTup (aCons (fC (.str "card")) (aCons (f2 gIx2 (fVar 0) (fC (.int 1))) (aCons (fVar 1) (aCons (fVar 3) (aCons (fVar 4) (aCons (fSl (fVar 0) (oSome (fC (.int 11))) (oSome (fVar 2))) (aCons (fSl (fVar 0) (oSome (fVar 2)) (oSome (fC (.int 60)))) aNil)))))))))))) sPass)
    (sSeq (sIf (fBl (f2 gEq (f2 gIx2 (fVar 0) (fC (.int 0))) (fC (.int 3)))) (sRet (fTup (aCons (fC (.str "tail")) (aCons (f2 gIx2 (fVar 0) (fC (.int 1))) (aCons (fVar 1) (aCons (f2 gIx2 (fVar 0) (fC (.int 5))) (aCons (fSl (fVar 0) (oSome (fC (.int 6))) (oSome (fC (.int 60)))) aNil))))))) sPass)
    (sSeq (sIf (fBl (f2 gEq (f2 gIx2 (fVar 0) (fC (.int 0))) (fC (.int 4)))) (sRet (fTup (aCons (fC (.str "data")) (aCons (f2 gIx2 (fVar 0) (fC (.int 1))) (aCons (fVar 1) (aCons (f2 gIx2 (fVar 0) (fC (.int 5))) (aCons (fCall F_octets_text (aCons (fSl (fVar 0) (oSome (fC (.int 7))) (oSome (f2 gAdd (fC (.int 7)) (f2 gIx2 (fVar 0) (fC (.int 6)))))) aNil)) aNil))))))) sPass)
    (sRet (fC (.tup [.str "bad"])))))))))
def F_guessed : List D → Mem → Res D := fnD N_guessed B_guessed
abbrev N_octets_of_card : List Str := ["card", "_", "kind", "places", "length", "parts", "needs", "found", "folder", "name", "page", "stamp", "thing"]
def B_octets_of_card : Mn.Env → Mem → Out := (sSeq (sAsg (fVar 0) (gTupT 7 (gsCons (gN 1) (gsCons (gN 1) (gsCons (gN 2) (gsCons (gN 3) (gsCons (gN 4) (gsCons (gN 5) (gsCons (gN 6) gsNil)))))))))
    (sSeq (sSet 7 (fTup (aCons (fLM kIndex (fC (.tup [.str "none", .str "folder", .str "file"])) (aCons (fVar 2) aNil)) (aCons (fCall gLen (aCons (fVar 3) aNil)) aNil))))
    (sSeq (sFor (fSeq2 (fVar 3)) (gTupT 2 (gsCons (gN 8) (gsCons (gN 9) gsNil))) (sSet 7 (f2 gAdd (f2 gAdd (fVar 7) (fTup (aCons (fVar 8) (aCons (fCall gLen (aCons (fVar 9) aNil)) aNil)))) (fCall F_text_octets (aCons (fVar 9) aNil)))))
    (sSeq (sSet 7 (f2 gAdd (fVar 7) (fCall F_number_octets (aCons (fVar 4) (aCons (fC (.int 2)) aNil)))))
    (sSeq (sFor (fSeq2 (fVar 5)) (gTupT 2 (gsCons (gN 10) (gsCons (gN 11) gsNil))) (sSet 7 (f2 gAdd (f2 gAdd (fVar 7) (fTup (aCons (fVar 10) aNil))) (fCall F_number_octets (aCons (fVar 11) (aCons (fC (.int 3)) aNil))))))
    (sSeq (sSet 7 (f2 gAdd (fVar 7) (fTup (aCons (fCall gLen (aCons (fVar 6) aNil)) aNil))))
    (sSeq (sFor (fSeq2 (fVar 6)) (gTupT 2 (gsCons (gN 12) (gsCons (gN 11) gsNil))) (sSet 7 (f2 gAdd (f2 gAdd (fVar 7) (fTup (aCons (fVar 12) aNil))) (fCall F_number_octets (aCons (fVar 11) (aCons (fC (.int 3)) aNil))))))
    (sRet (fVar 7)))))))))
def F_octets_of_card : List D → Mem → Res D := fnD N_octets_of_card B_octets_of_card
abbrev N_is_size : List Str := ["value"]
def B_is_size : Mn.Env → Mem → Out := (sSeq (sIf (fOr (fNot (fTru (fIsi ["tuple"] (fVar 0)))) (fBl (f2 gNe (fCall gLen (aCons (fVar 0) aNil)) (fC (.int 2))))) (sRet (fC (.bl false))) sPass)
    (sRet (vAnd (fCall F_is_number (aCons (f2 gIx2 (fVar 0) (fC (.int 0))) (aCons (fC (.int 1)) (aCons (fC (.int 24)) aNil)))) (fCall F_is_number (aCons (f2 gIx2 (fVar 0) (fC (.int 1))) (aCons (fC (.int 0)) (aCons (fC (.int 200)) aNil)))))))
def F_is_size : List D → Mem → Res D := fnD N_is_size B_is_size
abbrev N_leads_home : List Str := ["up", "thing", "at", "_"]
def B_leads_home : Mn.Env → Mem → Out := (sSeq (sSet 2 (fVar 1))
    (sSeq (sFor (fRng (aCons (fCall gLen (aCons (fVar 0) aNil)) aNil)) (gN 3) (sSeq (sIf (fBl (f2 gEq (fVar 2) (fC (.int 0)))) (sRet (fC (.bl true))) sPass)
    (sSeq (sIf (fOr (fNot (fTru (fCall F_is_folder_up (aCons (fVar 0) (aCons (fVar 2) aNil))))) (fBl (f2 gEq (fCall gLen (aCons (f2 gIx2 (f2 gIx2 (fVar 0) (fVar 2)) (fC (.int 3))) aNil)) (fC (.int 0))))) (sRet (fC (.bl false))) sPass)
    (sSet 2 (f2 gIx2 (f2 gIx2 (f2 gIx2 (f2 gIx2 (fVar 0) (fVar 2)) (fC (.int 3))) (fC (.int 0))) (fC (.int 0)))))))
    (sRet (fC (.bl false)))))
def F_leads_home : List D → Mem → Res D := fnD N_leads_home B_leads_home
abbrev N_law_pick : List Str := ["row", "kinds"]
def B_law_pick : Mn.Env → Mem → Out := (sRet (f2 gIx2 (fVar 1) (fCall F_law_taken (aCons (fVar 0) (aCons (fCall gLen (aCons (fVar 1) aNil)) aNil)))))
def F_law_pick : List D → Mem → Res D := fnD N_law_pick B_law_pick
abbrev N_law_world : List Str := ["tree", "world", "line", "number"]
def B_law_world : Mn.Env → Mem → Out := (sSeq (sSet 1 (fDisp [((fC (.str "ways")), (fDisp [((fC (.str "")), (fC (.int 0)))])), ((fC (.str "texts")), (fDisp [((fC (.int 0)), (fC .non))])), ((fC (.str "left")), fDic0), ((fC (.str "mark")), (fC (.int 0)))]))
    (sSeq (sFor (fSeq2 (fVar 0)) (gN 2) (sIf (fBl (f2 gEq (f2 gIx2 (fVar 2) (fC (.int 1))) (fC (.str "same")))) (sSetIx2 (f2 gIx2 (fVar 1) (fC (.str "ways"))) (f2 gIx2 (fVar 2) (fC (.int 0))) (f2 gIx2 (f2 gIx2 (fVar 1) (fC (.str "ways"))) (f2 gIx2 (fVar 2) (fC (.int 2))))) (sSeq (sSet 3 (fCall gLen (aCons (f2 gIx2 (fVar 1) (fC (.str "texts"))) aNil)))
    (sSeq (sSetIx2 (f2 gIx2 (fVar 1) (fC (.str "ways"))) (f2 gIx2 (fVar 2) (fC (.int 0))) (fVar 3))
    (sSetIx2 (f2 gIx2 (fVar 1) (fC (.str "texts"))) (fVar 3) (fIf (fBl (f2 gEq (f2 gIx2 (fVar 2) (fC (.int 1))) (fC (.str "file")))) (f2 gIx2 (fVar 2) (fC (.int 2))) (fC .non)))))))
    (sRet (fCall F_law_begun (aCons (fVar 1) (aCons (fC (.int 0)) aNil))))))
def F_law_world : List D → Mem → Res D := fnD N_law_world B_law_world
abbrev N_law_copied : List Str := ["world", "found"]
def B_law_copied : Mn.Env → Mem → Out := (sSeq (sSet 1 (fDisp [((fC (.str "ways")), (fCall gDict (aCons (f2 gIx2 (fVar 0) (fC (.str "ways"))) aNil))), ((fC (.str "texts")), (fCall gDict (aCons (f2 gIx2 (fVar 0) (fC (.str "texts"))) aNil))), ((fC (.str "left")), (fCall gDict (aCons (f2 gIx2 (fVar 0) (fC (.str "left"))) aNil)))]))
    (sRet (fCall F_law_begun (aCons (fVar 1) (aCons (f2 gIx2 (fVar 0) (fC (.str "mark"))) aNil)))))
def F_law_copied : List D → Mem → Res D := fnD N_law_copied B_law_copied
abbrev N_law_look : List Str := ["world", "way", "spot"]
def B_law_look : Mn.Env → Mem → Out := (sSeq (sIf (fBl (f2 (gIn2 false) (fVar 1) (f2 gIx2 (fVar 0) (fC (.str "ways"))))) (sExpr (fApp (f2 gIx2 (fVar 0) (fC (.str "saw"))) (aCons (f2 gIx2 (f2 gIx2 (fVar 0) (fC (.str "ways"))) (fVar 1)) aNil))) sPass)
    (sSeq (sSet 2 (fTup (aCons (f2 gIx2 (f2 gIx2 (fVar 0) (fC (.str "ways"))) (fCall F_law_up (aCons (fVar 1) aNil))) (aCons (fCall F_law_last (aCons (fVar 1) aNil)) aNil))))
    (sIf (fAnd (fBl (f2 (gIn2 true) (fVar 1) (f2 gIx2 (fVar 0) (fC (.str "ways"))))) (fBl (f2 (gIn2 false) (fVar 2) (f2 gIx2 (fVar 0) (fC (.str "left")))))) (sExpr (fApp (f2 gIx2 (fVar 0) (fC (.str "missed"))) (aCons (f2 gIx2 (f2 gIx2 (fVar 0) (fC (.str "left"))) (fVar 2)) aNil))) sPass)))
def F_law_look : List D → Mem → Res D := fnD N_law_look B_law_look
abbrev N_law_leave : List Str := ["world", "way", "number"]
def B_law_leave : Mn.Env → Mem → Out := (sSeq (sSet 2 (fPop1 (f2 gIx2 (fVar 0) (fC (.str "ways"))) (fVar 1)))
    (sSeq (sSetIx2 (f2 gIx2 (fVar 0) (fC (.str "left"))) (fTup (aCons (f2 gIx2 (f2 gIx2 (fVar 0) (fC (.str "ways"))) (fCall F_law_up (aCons (fVar 1) aNil))) (aCons (fCall F_law_last (aCons (fVar 1) aNil)) aNil))) (fTup (aCons (fVar 2) (aCons (f2 gIx2 (fVar 0) (fC (.str "mark"))) aNil))))
    (sExpr (fApp (f2 gIx2 (fVar 0) (fC (.str "wrote"))) (aCons (fVar 2) aNil)))))
def F_law_leave : List D → Mem → Res D := fnD N_law_leave B_law_leave
abbrev N_law_numbers : List Str := ["row", "many", "turn"]
def B_law_numbers : Mn.Env → Mem → Out := (sRet (fCall gTupOf (aCons (fComp [2] (fRng (aCons (f2 gAdd (fC (.int 1)) (fCall F_law_taken (aCons (fVar 0) (aCons (fVar 1) aNil)))) aNil)) (gN 2) ftYes (fCall F_law_taken (aCons (fVar 0) (aCons (fC (.int 12)) aNil)))) aNil)))
def F_law_numbers : List D → Mem → Res D := fnD N_law_numbers B_law_numbers
abbrev N_file_line : List Str := ["tree", "way", "line"]
def B_file_line : Mn.Env → Mem → Out := (sSeq (sSet 2 (fCall F_line_at (aCons (fVar 0) (aCons (fVar 1) aNil))))
    (sSeq (sIf (fAnd (fBl (f2 gNotN (fVar 2) (fC .non))) (fBl (f2 gEq (f2 gIx2 (fVar 2) (fC (.int 1))) (fC (.str "same"))))) (sSet 2 (fCall F_line_at (aCons (fVar 0) (aCons (f2 gIx2 (fVar 2) (fC (.int 2))) aNil)))) sPass)
    (sSeq (sIf (fOr (fBl (f2 gIsN (fVar 2) (fC .non))) (fBl (f2 gNe (f2 gIx2 (fVar 2) (fC (.int 1))) (fC (.str "file"))))) (sRaise "NotFile") sPass)
    (sRet (fVar 2)))))
def F_file_line : List D → Mem → Res D := fnD N_file_line B_file_line
abbrev N_kind_at : List Str := ["tree", "way", "line"]
def B_kind_at : Mn.Env → Mem → Out := (sSeq (sIf (fBl (f2 gEq (fVar 1) (fC (.str "/")))) (sRet (fC (.str "folder"))) sPass)
    (sSeq (sSet 2 (fCall F_line_at (aCons (fVar 0) (aCons (fVar 1) aNil))))
    (sSeq (sIf (fBl (f2 gIsN (fVar 2) (fC .non))) (sRet (fC .non)) sPass)
    (sRet (fIf (fBl (f2 gEq (f2 gIx2 (fVar 2) (fC (.int 1))) (fC (.str "folder")))) (fC (.str "folder")) (fC (.str "file")))))))
def F_kind_at : List D → Mem → Res D := fnD N_kind_at B_kind_at
abbrev N_check_bytes : List Str := ["some", "most"]
def B_check_bytes : Mn.Env → Mem → Out := (sIf (fNot (fTru (fCall F_is_bytes (aCons (fVar 0) (aCons (fVar 1) aNil))))) (sRaise "BadBytes") sPass)
def F_check_bytes : List D → Mem → Res D := fnD N_check_bytes B_check_bytes
abbrev N_number_bytes : List Str := ["number", "count", "some"]
def B_number_bytes : Mn.Env → Mem → Out := (sSeq (sIf (fOr (fNot (fTru (fCall F_is_number (aCons (fVar 0) (aCons (fC (.int 0)) (aCons (fC (.int 18446744073709551615)) aNil)))))) (fNot (fTru (fCall F_is_number (aCons (fVar 1) (aCons (fC (.int 1)) (aCons (fC (.int 8)) aNil))))))) (sRaise "BadNumber") sPass)
    (sSeq (sSet 2 (fCall F_number_octets (aCons (fVar 0) (aCons (fVar 1) aNil))))
    (sSeq (sIf (fBl (f2 gNe (fCall F_octets_number (aCons (fVar 2) aNil)) (fVar 0))) (sRaise "BadNumber") sPass)
    (sRet (fVar 2)))))
def F_number_bytes : List D → Mem → Res D := fnD N_number_bytes B_number_bytes
abbrev N_law_page : List Str := ["some", "one", "other", "k"]
def B_law_page : Mn.Env → Mem → Out := (sSeq (sSet 0 (f2 gAdd (fCall gLst2 (aCons (fVar 0) aNil)) (f2 gMul2 (fLst (aCons (fC (.int 0)) aNil)) (f2 gSub (fC (.int 60)) (fCall gLen (aCons (fVar 0) aNil))))))
    (sSeq (sSet 1 (f2 gMod (fCall gSum2 (aCons (fVar 0) aNil)) (fC (.int 257))))
    (sSeq (sSet 2 (f2 gMod (fCall gSum2 (aCons (fComp [3] (fRng (aCons (fC (.int 60)) aNil)) (gN 3) ftYes (f2 gMul2 (f2 gAdd (fVar 3) (fC (.int 1))) (f2 gIx2 (fVar 0) (fVar 3)))) aNil)) (fC (.int 257))))
    (sRet (fCall gTupOf (aCons (f2 gAdd (f2 gAdd (fVar 0) (fCall F_law_in_bytes (aCons (fVar 1) (aCons (fC (.int 2)) aNil)))) (fCall F_law_in_bytes (aCons (fVar 2) (aCons (fC (.int 2)) aNil)))) aNil))))))
def F_law_page : List D → Mem → Res D := fnD N_law_page B_law_page
abbrev N_law_body : List Str := ["card", "stamp", "period", "kind", "places", "length", "parts", "needs", "found", "folder", "name", "page", "one", "thing", "sign"]
def B_law_body : Mn.Env → Mem → Out := (sSeq (sAsg (fVar 0) (gTupT 7 (gsCons (gN 1) (gsCons (gN 2) (gsCons (gN 3) (gsCons (gN 4) (gsCons (gN 5) (gsCons (gN 6) (gsCons (gN 7) gsNil)))))))))
    (sSeq (sSet 8 (fLst (aCons (fLM kIndex (fLst (aCons (fC (.str "none")) (aCons (fC (.str "folder")) (aCons (fC (.str "file")) aNil)))) (aCons (fVar 3) aNil)) (aCons (fCall gLen (aCons (fVar 4) aNil)) aNil))))
    (sSeq (sFor (fSeq2 (fVar 4)) (gTupT 2 (gsCons (gN 9) (gsCons (gN 10) gsNil))) (sSet 8 (f2 gAdd (f2 gAdd (fVar 8) (fLst (aCons (fVar 9) (aCons (fCall gLen (aCons (fVar 10) aNil)) aNil)))) (fComp [14] (fSeq2 (fVar 10)) (gN 14) ftYes (fCall gOrd (aCons (fVar 14) aNil))))))
    (sSeq (sSet 8 (f2 gAdd (fVar 8) (fCall F_law_in_bytes (aCons (fVar 5) (aCons (fC (.int 2)) aNil)))))
    (sSeq (sFor (fSeq2 (fVar 6)) (gTupT 2 (gsCons (gN 11) (gsCons (gN 12) gsNil))) (sSet 8 (f2 gAdd (f2 gAdd (fVar 8) (fLst (aCons (fVar 11) aNil))) (fCall F_law_in_bytes (aCons (fVar 12) (aCons (fC (.int 3)) aNil))))))
    (sSeq (sSet 8 (f2 gAdd (fVar 8) (fLst (aCons (fCall gLen (aCons (fVar 7) aNil)) aNil))))
    (sSeq (sFor (fSeq2 (fVar 7)) (gTupT 2 (gsCons (gN 13) (gsCons (gN 12) gsNil))) (sSet 8 (f2 gAdd (f2 gAdd (fVar 8) (fLst (aCons (fVar 13) aNil))) (fCall F_law_in_bytes (aCons (fVar 12) (aCons (fC (.int 3)) aNil))))))
    (sRet (fVar 8)))))))))
def F_law_body : List D → Mem → Res D := fnD N_law_body B_law_body
abbrev N_law_synced : List Str := ["ship", "thing"]
def B_law_synced : Mn.Env → Mem → Out := (sSeq (sFor (fSeq2 (fCall gLst2 (aCons (f2 gIx2 (fVar 0) (fC (.str "busy"))) aNil))) (gN 1) (sSetIx2 (f2 gIx2 (fVar 0) (fC (.str "sides"))) (fVar 1) (f2 gSub (fC (.int 1)) (f2 gIx2 (f2 gIx2 (fVar 0) (fC (.str "sides"))) (fVar 1)))))
    (sSeq (sSetIx2 (fVar 0) (fC (.str "period")) (f2 gAdd (f2 gIx2 (fVar 0) (fC (.str "period"))) (fC (.int 1))))
    (sRet (fCall F_law_rested (aCons (fVar 0) aNil)))))
def F_law_synced : List D → Mem → Res D := fnD N_law_synced B_law_synced
abbrev N_is_way : List Str := ["value", "name"]
def B_is_way : Mn.Env → Mem → Out := (sSeq (sIf (fOr (fNot (fTru (fIsi ["str"] (fVar 0)))) (fNot (fTru (fM1 gStarts (fVar 0) (fC (.str "/")))))) (sRet (fC (.bl false))) sPass)
    (sRet (vOr (f2 gEq (fVar 0) (fC (.str "/"))) (fCall gAll (aCons (fComp [1] (fSeq2 (fM1 gSplit (fSl (fVar 0) (oSome (fC (.int 1))) oNone) (fC (.str "/")))) (gN 1) ftYes (fCall F_is_name (aCons (fVar 1) aNil))) aNil)))))
def F_is_way : List D → Mem → Res D := fnD N_is_way B_is_way
abbrev N_way_of : List Str := ["names", "name"]
def B_way_of : Mn.Env → Mem → Out := (sSeq (sIf (fOr (fNot (fTru (fIsi ["tuple"] (fVar 0)))) (fNot (fTru (fCall gAll (aCons (fComp [1] (fSeq2 (fVar 0)) (gN 1) ftYes (fCall F_is_name (aCons (fVar 1) aNil))) aNil))))) (sRaise "BadNames") sPass)
    (sRet (f2 gAdd (fC (.str "/")) (fM1 gJoin (fC (.str "/")) (fVar 0)))))
def F_way_of : List D → Mem → Res D := fnD N_way_of B_way_of
abbrev N_are_tails : List Str := ["value", "most", "item"]
def B_are_tails : Mn.Env → Mem → Out := (sSeq (sIf (fOr (fNot (fTru (fIsi ["tuple"] (fVar 0)))) (fOr (fBl (f2 gGt (fCall gLen (aCons (fVar 0) aNil)) (fVar 1))) (fNot (fTru (fCall gAll (aCons (fComp [2] (fSeq2 (fVar 0)) (gN 2) ftYes (fCall F_is_page_number (aCons (fVar 2) aNil))) aNil)))))) (sRet (fC (.bl false))) sPass)
    (sRet (f2 gEq (fLenSet (fVar 0)) (fCall gLen (aCons (fVar 0) aNil)))))
def F_are_tails : List D → Mem → Res D := fnD N_are_tails B_are_tails
abbrev N_is_told_head : List Str := ["told", "_", "period", "things", "pages", "total"]
def B_is_told_head : Mn.Env → Mem → Out := (sSeq (sAsg (fVar 0) (gTupT 5 (gsCons (gN 1) (gsCons (gN 2) (gsCons (gN 3) (gsCons (gN 4) (gsCons (gN 5) gsNil)))))))
    (sSeq (sIf (fOr (fNot (fTru (fCall F_is_stamp (aCons (fVar 2) aNil)))) (fNot (fTru (fCall F_is_number (aCons (fVar 5) (aCons (fC (.int 0)) (aCons (fC (.int 4294967296)) aNil))))))) (sRet (fC (.bl false))) sPass)
    (sRet (vAnd (fCall F_is_number (aCons (fVar 3) (aCons (fC (.int 1)) (aCons (fC (.int 24)) aNil)))) (fCall F_is_number (aCons (fVar 4) (aCons (fC (.int 0)) (aCons (fC (.int 200)) aNil))))))))
def F_is_told_head : List D → Mem → Res D := fnD N_is_told_head B_is_told_head
abbrev N_is_told_tail : List Str := ["told", "_", "thing", "stamp", "index", "some"]
def B_is_told_tail : Mn.Env → Mem → Out := (sSeq (sAsg (fVar 0) (gTupT 5 (gsCons (gN 1) (gsCons (gN 2) (gsCons (gN 3) (gsCons (gN 4) (gsCons (gN 5) gsNil)))))))
    (sSeq (sIf (fOr (fNot (fTru (fCall F_is_thing (aCons (fVar 2) aNil)))) (fOr (fNot (fTru (fCall F_is_stamp (aCons (fVar 3) aNil)))) (fNot (fTru (fCall F_is_number (aCons (fVar 4) (aCons (fC (.int 0)) (aCons (fC (.int 59)) aNil)))))))) (sRet (fC (.bl false))) sPass)
    (sRet (fCall F_are_bytes (aCons (fVar 5) (aCons (fC (.int 54)) aNil))))))
def F_is_told_tail : List D → Mem → Res D := fnD N_is_told_tail B_is_told_tail
abbrev N_is_told_data : List Str := ["told", "_", "thing", "stamp", "index", "contents"]
def B_is_told_data : Mn.Env → Mem → Out := (sSeq (sAsg (fVar 0) (gTupT 5 (gsCons (gN 1) (gsCons (gN 2) (gsCons (gN 3) (gsCons (gN 4) (gsCons (gN 5) gsNil)))))))
    (sSeq (sIf (fOr (fNot (fTru (fCall F_is_thing (aCons (fVar 2) aNil)))) (fOr (fNot (fTru (fCall F_is_stamp (aCons (fVar 3) aNil)))) (fNot (fTru (fCall F_is_number (aCons (fVar 4) (aCons (fC (.int 0)) (aCons (fC (.int 59)) aNil)))))))) (sRet (fC (.bl false))) sPass)
    (sRet (vAnd (fCall F_is_contents (aCons (fVar 5) aNil)) (fChain gLe gLe (fC (.int 1)) (fCall gLen (aCons (fVar 5) aNil)) (fC (.int 50)))))))
def F_is_told_data : List D → Mem → Res D := fnD N_is_told_data B_is_told_data
abbrev N_told_octets : List Str := ["told", "ahead"]
def B_told_octets : Mn.Env → Mem → Out := (sSeq (sIf (fBl (f2 gEq (f2 gIx2 (fVar 0) (fC (.int 0))) (fC (.str "blank")))) (sRet (fTup aNil)) sPass)
    (sSeq (sIf (fBl (f2 gEq (f2 gIx2 (fVar 0) (fC (.int 0))) (fC (.str "head")))) (sRet (f2 gAdd (f2 gAdd (f2 gAdd (fTup (aCons (fC (.int 1)) aNil)) (fCall F_number_octets (aCons (f2 gIx2 (fVar 0) (fC (.int 1))) (aCons (fC (.int 3)) aNil)))) (fSl (fVar 0) (oSome (fC (.int 2))) (oSome (fC (.int 4))))) (fCall F_number_octets (aCons (f2 gIx2 (fVar 0) (fC (.int 4))) (aCons (fC (.int 5)) aNil))))) sPass)
    (sSeq (sIf (fBl (f2 gEq (f2 gIx2 (fVar 0) (fC (.int 0))) (fC (.str "card")))) (sRet (fCall F_card_octets (aCons (fVar 0) aNil))) sPass)
    (sSeq (sSet 1 (f2 gAdd (f2 gAdd (fTup (aCons (f2 gIx2 (fVar 0) (fC (.int 1))) aNil)) (fCall F_number_octets (aCons (f2 gIx2 (fVar 0) (fC (.int 2))) (aCons (fC (.int 3)) aNil)))) (fTup (aCons (f2 gIx2 (fVar 0) (fC (.int 3))) aNil))))
    (sSeq (sIf (fBl (f2 gEq (f2 gIx2 (fVar 0) (fC (.int 0))) (fC (.str "tail")))) (sRet (f2 gAdd (f2 gAdd (fTup (aCons (fC (.int 3)) aNil)) (fVar 1)) (f2 gIx2 (fVar 0) (fC (.int 4))))) sPass)
    (sRet (f2 gAdd (f2 gAdd (f2 gAdd (fTup (aCons (fC (.int 4)) aNil)) (fVar 1)) (fTup (aCons (fCall gLen (aCons (f2 gIx2 (fVar 0) (fC (.int 4))) aNil)) aNil))) (fCall F_text_octets (aCons (f2 gIx2 (fVar 0) (fC (.int 4))) aNil)))))))))
def F_told_octets : List D → Mem → Res D := fnD N_told_octets B_told_octets
abbrev N_is_place : List Str := ["value"]
def B_is_place : Mn.Env → Mem → Out := (sRet (vAnd (fCall F_is_pair (aCons (fVar 0) aNil)) (vAnd (fCall F_is_thing (aCons (f2 gIx2 (fVar 0) (fC (.int 0))) aNil)) (fCall F_is_name (aCons (f2 gIx2 (fVar 0) (fC (.int 1))) aNil)))))
def F_is_place : List D → Mem → Res D := fnD N_is_place B_is_place
abbrev N_is_part : List Str := ["value"]
def B_is_part : Mn.Env → Mem → Out := (sRet (vAnd (fCall F_is_pair (aCons (fVar 0) aNil)) (vAnd (fCall F_is_page_number (aCons (f2 gIx2 (fVar 0) (fC (.int 0))) aNil)) (fCall F_is_stamp (aCons (f2 gIx2 (fVar 0) (fC (.int 1))) aNil)))))
def F_is_part : List D → Mem → Res D := fnD N_is_part B_is_part
abbrev N_is_need : List Str := ["value"]
def B_is_need : Mn.Env → Mem → Out := (sRet (vAnd (fCall F_is_pair (aCons (fVar 0) aNil)) (vAnd (fCall F_is_thing (aCons (f2 gIx2 (fVar 0) (fC (.int 0))) aNil)) (fCall F_is_stamp (aCons (f2 gIx2 (fVar 0) (fC (.int 1))) aNil)))))
def F_is_need : List D → Mem → Res D := fnD N_is_need B_is_need
abbrev N_check_size : List Str := ["size"]
def B_check_size : Mn.Env → Mem → Out := (sIf (fNot (fTru (fCall F_is_size (aCons (fVar 0) aNil)))) (sRaise "BadSize") sPass)
def F_check_size : List D → Mem → Res D := fnD N_check_size B_check_size
abbrev N_check_image : List Str := ["image", "page"]
def B_check_image : Mn.Env → Mem → Out := (sSeq (sIf (fOr (fNot (fTru (fIsi ["tuple"] (fVar 0)))) (fNot (fBl (fChain gLe gLe (fC (.int 4)) (fCall gLen (aCons (fVar 0) aNil)) (fC (.int 250)))))) (sRaise "BadImage") sPass)
    (sIf (fNot (fTru (fCall gAll (aCons (fComp [1] (fSeq2 (fVar 0)) (gN 1) ftYes (fCall F_is_page (aCons (fVar 1) aNil))) aNil)))) (sRaise "BadImage") sPass))
def F_check_image : List D → Mem → Res D := fnD N_check_image B_check_image
abbrev N_is_write : List Str := ["value", "many"]
def B_is_write : Mn.Env → Mem → Out := (sSeq (sIf (fOr (fNot (fTru (fIsi ["tuple"] (fVar 0)))) (fOr (fBl (f2 gNe (fCall gLen (aCons (fVar 0) aNil)) (fC (.int 2)))) (fNot (fTru (fCall F_is_number (aCons (f2 gIx2 (fVar 0) (fC (.int 0))) (aCons (fC (.int 0)) (aCons (f2 gSub (fVar 1) (fC (.int 1))) aNil)))))))) (sRet (fC (.bl false))) sPass)
    (sRet (vAnd (f2 gNotN (f2 gIx2 (fVar 0) (fC (.int 1))) (fC .non)) (fCall F_is_page (aCons (f2 gIx2 (fVar 0) (fC (.int 1))) aNil)))))
def F_is_write : List D → Mem → Res D := fnD N_is_write B_is_write
abbrev N_ring_faults : List Str := ["up", "rings", "thing"]
def B_ring_faults : Mn.Env → Mem → Out := (sSeq (sSet 1 (fLst aNil))
    (sSeq (sFor (fRng (aCons (fCall gLen (aCons (fVar 0) aNil)) aNil)) (gN 2) (sIf (fAnd (fTru (fCall F_is_folder_up (aCons (fVar 0) (aCons (fVar 2) aNil)))) (fNot (fTru (fCall F_leads_home (aCons (fVar 0) (aCons (fVar 2) aNil)))))) (sExpr (fApp (fVar 1) (aCons (fTup (aCons (fC (.str "ring")) (aCons (fVar 2) aNil))) aNil))) sPass))
    (sRet (fVar 1))))
def F_ring_faults : List D → Mem → Res D := fnD N_ring_faults B_ring_faults
abbrev N_law_way : List Str := ["row", "found", "turn"]
def B_law_way : Mn.Env → Mem → Out := (sSeq (sSet 1 (fC (.str "")))
    (sSeq (sFor (fRng (aCons (f2 gAdd (f2 gAdd (fC (.int 1)) (fCall gInt (aCons (f2 gEq (fCall F_law_taken (aCons (fVar 0) (aCons (fC (.int 3)) aNil))) (fC (.int 0))) aNil))) (fCall gInt (aCons (f2 gEq (fCall F_law_taken (aCons (fVar 0) (aCons (fC (.int 8)) aNil))) (fC (.int 0))) aNil))) aNil)) (gN 2) (sSet 1 (f2 gAdd (f2 gAdd (fVar 1) (fC (.str "/"))) (fCall F_law_pick (aCons (fVar 0) (aCons (fLst (aCons (fC (.str "a")) (aCons (fC (.str "b")) (aCons (fC (.str "c")) (aCons (fC (.str "ab")) aNil))))) aNil))))))
    (sRet (fVar 1))))
def F_law_way : List D → Mem → Res D := fnD N_law_way B_law_way
abbrev N_law_text : List Str := ["row", "sign", "many"]
def B_law_text : Mn.Env → Mem → Out := (sSeq (sSet 1 (fCall F_law_pick (aCons (fVar 0) (aCons (fLst (aCons (fC (.str "a")) (aCons (fC (.str "b")) (aCons (fC (.str "Z")) (aCons (fC (.str "7")) (aCons (fC (.str " ")) (aCons (fC (.str "=")) aNil))))))) aNil))))
    (sSeq (sSet 2 (fCall F_law_pick (aCons (fVar 0) (aCons (fLst (aCons (fC (.int 0)) (aCons (fC (.int 1)) (aCons (fC (.int 2)) (aCons (fC (.int 3)) (aCons (fC (.int 5)) (aCons (fC (.int 49)) (aCons (fC (.int 50)) (aCons (fC (.int 51)) (aCons (fC (.int 101)) aNil)))))))))) aNil))))
    (sRet (fIf (fBl (f2 gGt (fVar 2) (fC (.int 0)))) (f2 gAdd (fSl (f2 gMul2 (fVar 1) (fVar 2)) oNone (oSome (fNeg (fC (.int 1))))) (fCall F_law_pick (aCons (fVar 0) (aCons (fLst (aCons (fC (.str "x")) (aCons (fC (.str "y")) (aCons (fC (.str "z")) aNil)))) aNil)))) (fC (.str ""))))))
def F_law_text : List D → Mem → Res D := fnD N_law_text B_law_text
abbrev N_law_make : List Str := ["world", "deed", "wrong", "number"]
def B_law_make : Mn.Env → Mem → Out := (sSeq (sSet 2 (fCall F_law_above (aCons (fVar 0) (aCons (f2 gIx2 (fVar 1) (fC (.int 1))) aNil))))
    (sSeq (sIf (fBl (f2 gNe (fVar 2) (fC (.str "")))) (sRet (fVar 2)) sPass)
    (sSeq (sExpr (fCall F_law_look (aCons (fVar 0) (aCons (f2 gIx2 (fVar 1) (fC (.int 1))) aNil))))
    (sSeq (sIf (fBl (f2 (gIn2 false) (f2 gIx2 (fVar 1) (fC (.int 1))) (f2 gIx2 (fVar 0) (fC (.str "ways"))))) (sRet (fC (.str "IsThere"))) sPass)
    (sSeq (sSet 3 (fCall gLen (aCons (f2 gIx2 (fVar 0) (fC (.str "texts"))) aNil)))
    (sSeq (sSetIx2 (f2 gIx2 (fVar 0) (fC (.str "ways"))) (f2 gIx2 (fVar 1) (fC (.int 1))) (fVar 3))
    (sSeq (sSetIx2 (f2 gIx2 (fVar 0) (fC (.str "texts"))) (fVar 3) (fIf (fBl (f2 gEq (f2 gIx2 (fVar 1) (fC (.int 0))) (fC (.str "file")))) (f2 gIx2 (fVar 1) (fC (.int 2))) (fC .non)))
    (sSeq (sExpr (fApp (f2 gIx2 (fVar 0) (fC (.str "wrote"))) (aCons (fVar 3) aNil)))
    (sRet (fC (.str "")))))))))))
def F_law_make : List D → Mem → Res D := fnD N_law_make B_law_make
abbrev N_law_second : List Str := ["world", "deed", "number", "wrong", "is_folder", "other", "below", "way"]
def B_law_second : Mn.Env → Mem → Out := (sSeq (sSet 3 (fCall F_law_above (aCons (fVar 0) (aCons (f2 gIx2 (fVar 1) (fC (.int 2))) aNil))))
    (sSeq (sIf (fBl (f2 gNe (fVar 3) (fC (.str "")))) (sRet (fVar 3)) sPass)
    (sSeq (sPar 4 5 (aCons (f2 gIsN (f2 gIx2 (f2 gIx2 (fVar 0) (fC (.str "texts"))) (fVar 2)) (fC .non)) (aCons (fGet2 (f2 gIx2 (fVar 0) (fC (.str "ways"))) (f2 gIx2 (fVar 1) (fC (.int 2))) (fC .non)) aNil)))
    (sSeq (sIf (fAnd (fBl (f2 gEq (f2 gIx2 (fVar 1) (fC (.int 0))) (fC (.str "move")))) (fAnd (fTru (fVar 4)) (fBl (f2 gEq (fSl (f2 gIx2 (fVar 1) (fC (.int 2))) oNone (oSome (f2 gAdd (fCall gLen (aCons (f2 gIx2 (fVar 1) (fC (.int 1))) aNil)) (fC (.int 1))))) (f2 gAdd (f2 gIx2 (fVar 1) (fC (.int 1))) (fC (.str "/"))))))) (sRet (fC (.str "Inside"))) sPass)
    (sSeq (sExpr (fCall F_law_look (aCons (fVar 0) (aCons (f2 gIx2 (fVar 1) (fC (.int 2))) aNil))))
    (sSeq (sIf (fAnd (fBl (f2 gEq (f2 gIx2 (fVar 1) (fC (.int 0))) (fC (.str "link")))) (fBl (f2 gNotN (fVar 5) (fC .non)))) (sRet (fC (.str "IsThere"))) sPass)
    (sSeq (sIf (fAnd (fBl (f2 gEq (f2 gIx2 (fVar 1) (fC (.int 0))) (fC (.str "link")))) (fBl (f2 gEq (fCall gLen (aCons (fComp [7] (fSeq2 (fCall gLst2 (aCons (f2 gIx2 (fVar 0) (fC (.str "ways"))) aNil))) (gN 7) (fBl (f2 gEq (f2 gIx2 (f2 gIx2 (fVar 0) (fC (.str "ways"))) (fVar 7)) (fVar 2))) (fVar 7)) aNil)) (fC (.int 8))))) (sRet (fC (.str "TooLong"))) sPass)
    (sSeq (sIf (fAnd (fBl (f2 gNotN (fVar 5) (fC .non))) (fOr (fBl (f2 gEq (fVar 5) (fVar 2))) (fOr (fTru (fVar 4)) (fBl (f2 gIsN (f2 gIx2 (f2 gIx2 (fVar 0) (fC (.str "texts"))) (fVar 5)) (fC .non)))))) (sRet (fC (.str "IsThere"))) sPass)
    (sSeq (sIf (fBl (f2 gNotN (fVar 5) (fC .non))) (sExpr (fCall F_law_leave (aCons (fVar 0) (aCons (f2 gIx2 (fVar 1) (fC (.int 2))) aNil)))) sPass)
    (sSeq (sIf (fBl (f2 gEq (f2 gIx2 (fVar 1) (fC (.int 0))) (fC (.str "move")))) (sSeq (sSet 6 (fComp [7] (fSeq2 (fCall gLst2 (aCons (f2 gIx2 (fVar 0) (fC (.str "ways"))) aNil))) (gN 7) (fBl (f2 gEq (fSl (fVar 7) oNone (oSome (f2 gAdd (fCall gLen (aCons (f2 gIx2 (fVar 1) (fC (.int 1))) aNil)) (fC (.int 1))))) (f2 gAdd (f2 gIx2 (fVar 1) (fC (.int 1))) (fC (.str "/"))))) (fVar 7)))
    (sSeq (sExpr (fCall F_law_leave (aCons (fVar 0) (aCons (f2 gIx2 (fVar 1) (fC (.int 1))) aNil))))
    (sFor (fSeq2 (fVar 6)) (gN 7) (sSetIx2 (f2 gIx2 (fVar 0) (fC (.str "ways"))) (f2 gAdd (f2 gIx2 (fVar 1) (fC (.int 2))) (fSl (fVar 7) (oSome (fCall gLen (aCons (f2 gIx2 (fVar 1) (fC (.int 1))) aNil))) oNone)) (fPop1 (f2 gIx2 (fVar 0) (fC (.str "ways"))) (fVar 7)))))) sPass)
    (sSeq (sSetIx2 (f2 gIx2 (fVar 0) (fC (.str "ways"))) (f2 gIx2 (fVar 1) (fC (.int 2))) (fVar 2))
    (sSeq (sExpr (fApp (f2 gIx2 (fVar 0) (fC (.str "wrote"))) (aCons (fVar 2) aNil)))
    (sRet (fC (.str "")))))))))))))))
def F_law_second : List D → Mem → Res D := fnD N_law_second B_law_second
abbrev N_law_drop : List Str := ["world", "deed", "number", "spot", "way"]
def B_law_drop : Mn.Env → Mem → Out := (sSeq (sIf (fBl (f2 gIsN (f2 gIx2 (f2 gIx2 (fVar 0) (fC (.str "texts"))) (fVar 2)) (fC .non))) (sSeq (sIf (fBl (f2 gNe (fComp [4] (fSeq2 (fCall gLst2 (aCons (f2 gIx2 (fVar 0) (fC (.str "ways"))) aNil))) (gN 4) (fAnd (fBl (f2 gEq (fCall F_law_up (aCons (fVar 4) aNil)) (f2 gIx2 (fVar 1) (fC (.int 1))))) (fBl (f2 gNe (fVar 4) (fC (.str ""))))) (fVar 4)) (fLst aNil))) (sRet (fC (.str "NotEmpty"))) sPass)
    (sFor (fSeq2 (fCall gLst2 (aCons (f2 gIx2 (fVar 0) (fC (.str "left"))) aNil))) (gN 3) (sIf (fBl (f2 gEq (f2 gIx2 (fVar 3) (fC (.int 0))) (fVar 2))) (sExpr (fApp (f2 gIx2 (fVar 0) (fC (.str "missed"))) (aCons (f2 gIx2 (f2 gIx2 (fVar 0) (fC (.str "left"))) (fVar 3)) aNil))) sPass))) sPass)
    (sSeq (sExpr (fCall F_law_leave (aCons (fVar 0) (aCons (f2 gIx2 (fVar 1) (fC (.int 1))) aNil))))
    (sRet (fC (.str "")))))
def F_law_drop : List D → Mem → Res D := fnD N_law_drop B_law_drop
abbrev N_law_spot : List Str := ["row", "world", "is_new", "ways", "folders", "way"]
def B_law_spot : Mn.Env → Mem → Out := (sSeq (sSet 3 (fCall gSorted (aCons (fComp [5] (fSeq2 (fCall gLst2 (aCons (f2 gIx2 (fVar 1) (fC (.str "ways"))) aNil))) (gN 5) (fBl (f2 gNe (fVar 5) (fC (.str "")))) (fVar 5)) aNil)))
    (sSeq (sIf (fOr (fTru (fVar 2)) (fBl (f2 gEq (fVar 3) (fLst aNil)))) (sSeq (sSet 4 (fComp [5] (fSeq2 (f2 gAdd (fLst (aCons (fC (.str "")) aNil)) (fVar 3))) (gN 5) (fBl (f2 gIsN (f2 gIx2 (f2 gIx2 (fVar 1) (fC (.str "texts"))) (f2 gIx2 (f2 gIx2 (fVar 1) (fC (.str "ways"))) (fVar 5))) (fC .non))) (fVar 5)))
    (sSeq (sSet 4 (fComp [5] (fSeq2 (fVar 4)) (gN 5) (fBl (f2 gLt (fM1 gCount (fVar 5) (fC (.str "/"))) (fC (.int 3)))) (fVar 5)))
    (sRet (f2 gAdd (f2 gAdd (fCall F_law_pick (aCons (fVar 0) (aCons (fVar 4) aNil))) (fC (.str "/"))) (fCall F_law_pick (aCons (fVar 0) (aCons (fLst (aCons (fC (.str "a")) (aCons (fC (.str "b")) (aCons (fC (.str "c")) (aCons (fC (.str "ab")) aNil))))) aNil))))))) sPass)
    (sRet (fCall F_law_pick (aCons (fVar 0) (aCons (fVar 3) aNil))))))
def F_law_spot : List D → Mem → Res D := fnD N_law_spot B_law_spot
abbrev N_law_word : List Str := ["row", "turn"]
def B_law_word : Mn.Env → Mem → Out := (sRet (fM1 gJoin (fC (.str "")) (fComp [1] (fRng (aCons (f2 gAdd (fC (.int 1)) (fCall F_law_taken (aCons (fVar 0) (aCons (fC (.int 8)) aNil)))) aNil)) (gN 1) ftYes (fCall F_law_pick (aCons (fVar 0) (aCons (fC (.str "abmyz")) aNil))))))
def F_law_word : List D → Mem → Res D := fnD N_law_word B_law_word
abbrev N_bytes_number : List Str := ["some"]
def B_bytes_number : Mn.Env → Mem → Out := (sSeq (sExpr (fCall F_check_bytes (aCons (fVar 0) (aCons (fC (.int 4000)) aNil))))
    (sSeq (sIf (fNot (fBl (fChain gLe gLe (fC (.int 1)) (fCall gLen (aCons (fVar 0) aNil)) (fC (.int 8))))) (sRaise "BadNumber") sPass)
    (sRet (fCall F_octets_number (aCons (fVar 0) aNil)))))
def F_bytes_number : List D → Mem → Res D := fnD N_bytes_number B_bytes_number
abbrev N_text_bytes : List Str := ["contents"]
def B_text_bytes : Mn.Env → Mem → Out := (sSeq (sIf (fNot (fTru (fCall F_is_contents (aCons (fVar 0) aNil)))) (sRaise "BadContents") sPass)
    (sRet (fCall F_text_octets (aCons (fVar 0) aNil))))
def F_text_bytes : List D → Mem → Res D := fnD N_text_bytes B_text_bytes
abbrev N_bytes_text : List Str := ["some", "text"]
def B_bytes_text : Mn.Env → Mem → Out := (sSeq (sExpr (fCall F_check_bytes (aCons (fVar 0) (aCons (fC (.int 2000)) aNil))))
    (sSeq (sSet 1 (fCall F_octets_text (aCons (fVar 0) aNil)))
    (sSeq (sIf (fBl (f2 gIsN (fVar 1) (fC .non))) (sRaise "BadBytes") sPass)
    (sRet (fVar 1)))))
def F_bytes_text : List D → Mem → Res D := fnD N_bytes_text B_bytes_text
abbrev N_check : List Str := ["some"]
def B_check : Mn.Env → Mem → Out := (sSeq (sExpr (fCall F_check_bytes (aCons (fVar 0) (aCons (fC (.int 250)) aNil))))
    (sRet (fCall F_sums_of (aCons (fVar 0) aNil))))
def F_check : List D → Mem → Res D := fnD N_check B_check
abbrev N_with_check : List Str := ["some"]
def B_with_check : Mn.Env → Mem → Out := (sSeq (sExpr (fCall F_check_bytes (aCons (fVar 0) (aCons (fC (.int 250)) aNil))))
    (sRet (fCall F_octets_with_check (aCons (fVar 0) aNil))))
def F_with_check : List D → Mem → Res D := fnD N_with_check B_with_check
abbrev N_without_check : List Str := ["some", "plain"]
def B_without_check : Mn.Env → Mem → Out := (sSeq (sExpr (fCall F_check_bytes (aCons (fVar 0) (aCons (f2 gAdd (fC (.int 250)) (fC (.int 4))) aNil))))
    (sSeq (sIf (fBl (f2 gLt (fCall gLen (aCons (fVar 0) aNil)) (fC (.int 4)))) (sRet (fC .non)) sPass)
    (sSeq (sSet 1 (fSl (fVar 0) oNone (oSome (fNeg (fC (.int 4))))))
    (sRet (fIf (fBl (f2 gEq (fCall F_octets_with_check (aCons (fVar 1) aNil)) (fVar 0))) (fVar 1) (fC .non))))))
def F_without_check : List D → Mem → Res D := fnD N_without_check B_without_check
abbrev N_law_changed : List Str := ["row", "some", "many", "found", "spots", "spot"]
def B_law_changed : Mn.Env → Mem → Out := (sSeq (sSet 3 (fCall gLst2 (aCons (fVar 1) aNil)))
    (sSeq (sSet 4 (fLst (aCons (fCall F_law_taken (aCons (fVar 0) (aCons (fVar 2) aNil))) (aCons (fCall F_law_taken (aCons (fVar 0) (aCons (fVar 2) aNil))) aNil))))
    (sSeq (sFor (fSeq2 (fSl (fVar 4) oNone (oSome (f2 gAdd (fC (.int 1)) (fCall F_law_taken (aCons (fVar 0) (aCons (fC (.int 2)) aNil))))))) (gN 5) (sSetIx2 (fVar 3) (fVar 5) (f2 gMod (f2 gAdd (f2 gAdd (f2 gIx2 (fVar 1) (fVar 5)) (fC (.int 1))) (fCall F_law_pick (aCons (fVar 0) (aCons (fLst (aCons (fC (.int 0)) (aCons (fC (.int 254)) (aCons (fC (.int 127)) (aCons (fCall F_law_taken (aCons (fVar 0) (aCons (fC (.int 255)) aNil))) aNil))))) aNil)))) (fC (.int 256)))))
    (sRet (fCall gTupOf (aCons (fVar 3) aNil))))))
def F_law_changed : List D → Mem → Res D := fnD N_law_changed B_law_changed
abbrev N_law_card_pages : List Str := ["thing", "card", "tails", "body", "own", "first", "found", "k", "piece"]
def B_law_card_pages : Mn.Env → Mem → Out := (sSeq (sPar 3 4 (aCons (fCall F_law_body (aCons (fVar 1) aNil)) (aCons (f2 gSub (fC (.int 49)) (fCall gLen (aCons (fVar 2) aNil))) aNil)))
    (sSeq (sSet 5 (f2 gAdd (f2 gAdd (f2 gAdd (fLst (aCons (fC (.int 2)) (aCons (fVar 0) aNil))) (fCall F_law_in_bytes (aCons (f2 gIx2 (fVar 1) (fC (.int 0))) (aCons (fC (.int 3)) aNil)))) (fCall F_law_in_bytes (aCons (f2 gIx2 (fVar 1) (fC (.int 1))) (aCons (fC (.int 3)) aNil)))) (fCall F_law_in_bytes (aCons (fCall gLen (aCons (fVar 3) aNil)) (aCons (fC (.int 2)) aNil)))))
    (sSeq (sSet 6 (fLst (aCons (fCall F_law_page (aCons (f2 gAdd (f2 gAdd (f2 gAdd (fVar 5) (fLst (aCons (fCall gLen (aCons (fVar 2) aNil)) aNil))) (fCall gLst2 (aCons (fVar 2) aNil))) (fSl (fVar 3) oNone (oSome (fVar 4)))) aNil)) aNil)))
    (sSeq (sFor (fRng (aCons (fCall gLen (aCons (fVar 2) aNil)) aNil)) (gN 7) (sSeq (sSet 8 (fSl (fVar 3) (oSome (f2 gAdd (fVar 4) (f2 gMul2 (fC (.int 54)) (fVar 7)))) (oSome (f2 gAdd (f2 gAdd (fVar 4) (f2 gMul2 (fC (.int 54)) (fVar 7))) (fC (.int 54))))))
    (sExpr (fApp (fVar 6) (aCons (fCall F_law_page (aCons (f2 gAdd (f2 gAdd (f2 gAdd (fLst (aCons (fC (.int 3)) (aCons (fVar 0) aNil))) (fCall F_law_in_bytes (aCons (f2 gIx2 (fVar 1) (fC (.int 0))) (aCons (fC (.int 3)) aNil)))) (fLst (aCons (fVar 7) aNil))) (fVar 8)) aNil)) aNil)))))
    (sRet (fCall gTupOf (aCons (fVar 6) aNil)))))))
def F_law_card_pages : List D → Mem → Res D := fnD N_law_card_pages B_law_card_pages
abbrev N_law_ship : List Str := ["size", "cards", "found", "thing"]
def B_law_ship : Mn.Env → Mem → Out := (sSeq (sSet 1 (fComp [3] (fRng (aCons (f2 gIx2 (fVar 0) (fC (.int 0))) aNil)) (gN 3) ftYes (fTup (aCons (fC (.int 0)) (aCons (fC (.int 0)) (aCons (fIf (fBl (f2 gEq (fVar 3) (fC (.int 0)))) (fC (.str "folder")) (fC (.str "none"))) (aCons (fTup aNil) (aCons (fC (.int 0)) (aCons (fTup aNil) (aCons (fTup aNil) aNil))))))))))
    (sSeq (sSet 2 (fDisp [((fC (.str "world")), (fCall F_law_world (aCons (fTup aNil) aNil))), ((fC (.str "thing")), (fDisp [((fC (.int 0)), (fC (.int 0)))])), ((fC (.str "cards")), (fVar 1)), ((fC (.str "sides")), (f2 gMul2 (fLst (aCons (fC (.int 0)) aNil)) (f2 gIx2 (fVar 0) (fC (.int 0))))), ((fC (.str "tails")), (f2 gMul2 (fLst (aCons (fTup aNil) aNil)) (f2 gIx2 (fVar 0) (fC (.int 0)))))]))
    (sSeq (sAsgM (fTup (aCons (f2 gAdd (fC (.int 2)) (f2 gMul2 (fC (.int 2)) (f2 gIx2 (fVar 0) (fC (.int 0))))) (aCons (f2 gAdd (f2 gAdd (fC (.int 2)) (f2 gMul2 (fC (.int 2)) (f2 gIx2 (fVar 0) (fC (.int 0))))) (f2 gIx2 (fVar 0) (fC (.int 1)))) (aCons (fC (.int 0)) (aCons (fC (.int 2)) aNil))))) (hTup 4 (hCons (hSub (fVar 2) (fC (.str "first"))) (hCons (hSub (fVar 2) (fC (.str "last"))) (hCons (hSub (fVar 2) (fC (.str "stamp"))) (hCons (hSub (fVar 2) (fC (.str "period"))) hNil))))))
    (sRet (fCall F_law_rested (aCons (fVar 2) aNil))))))
def F_law_ship : List D → Mem → Res D := fnD N_law_ship B_law_ship
abbrev N_is_lower_way : List Str := ["value"]
def B_is_lower_way : Mn.Env → Mem → Out := (sRet (vAnd (fCall F_is_way (aCons (fVar 0) aNil)) (f2 gNe (fVar 0) (fC (.str "/")))))
def F_is_lower_way : List D → Mem → Res D := fnD N_is_lower_way B_is_lower_way
abbrev N_check_way : List Str := ["way"]
def B_check_way : Mn.Env → Mem → Out := (sIf (fNot (fTru (fCall F_is_way (aCons (fVar 0) aNil)))) (sRaise "BadWay") sPass)
def F_check_way : List D → Mem → Res D := fnD N_check_way B_check_way
abbrev N_is_told_card : List Str := ["told", "_", "thing", "stamp", "period", "length", "tails", "some"]
def B_is_told_card : Mn.Env → Mem → Out := (sSeq (sAsg (fVar 0) (gTupT 7 (gsCons (gN 1) (gsCons (gN 2) (gsCons (gN 3) (gsCons (gN 4) (gsCons (gN 5) (gsCons (gN 6) (gsCons (gN 7) gsNil)))))))))
    (sSeq (sIf (fOr (fNot (fTru (fCall F_is_thing (aCons (fVar 2) aNil)))) (fOr (fNot (fTru (fCall F_is_stamp (aCons (fVar 3) aNil)))) (fNot (fTru (fCall F_is_stamp (aCons (fVar 4) aNil)))))) (sRet (fC (.bl false))) sPass)
    (sSeq (sIf (fOr (fNot (fTru (fCall F_is_number (aCons (fVar 5) (aCons (fC (.int 0)) (aCons (fC (.int 1000)) aNil)))))) (fNot (fTru (fCall F_are_tails (aCons (fVar 6) (aCons (fC (.int 20)) aNil)))))) (sRet (fC (.bl false))) sPass)
    (sRet (fCall F_are_bytes (aCons (fVar 7) (aCons (f2 gSub (fC (.int 49)) (fCall gLen (aCons (fVar 6) aNil))) aNil)))))))
def F_is_told_card : List D → Mem → Res D := fnD N_is_told_card B_is_told_card
abbrev N_page_by : List Str := ["told", "octets"]
def B_page_by : Mn.Env → Mem → Out := (sSeq (sSet 1 (fCall F_told_octets (aCons (fVar 0) aNil)))
    (sRet (fCall F_octets_with_check (aCons (f2 gAdd (fVar 1) (f2 gMul2 (fTup (aCons (fC (.int 0)) aNil)) (f2 gSub (fC (.int 60)) (fCall gLen (aCons (fVar 1) aNil))))) aNil))))
def F_page_by : List D → Mem → Res D := fnD N_page_by B_page_by
abbrev N_are_parts : List Str := ["value", "count", "part"]
def B_are_parts : Mn.Env → Mem → Out := (sRet (vAnd (fIsi ["tuple"] (fVar 0)) (vAnd (f2 gEq (fCall gLen (aCons (fVar 0) aNil)) (fVar 1)) (fCall gAll (aCons (fComp [2] (fSeq2 (fVar 0)) (gN 2) ftYes (fCall F_is_part (aCons (fVar 2) aNil))) aNil)))))
def F_are_parts : List D → Mem → Res D := fnD N_are_parts B_are_parts
abbrev N_law_simple : List Str := ["row", "way", "kind"]
def B_law_simple : Mn.Env → Mem → Out := (sSeq (sSet 1 (fCall F_law_way (aCons (fVar 0) aNil)))
    (sSeq (sSet 2 (fCall F_law_taken (aCons (fVar 0) (aCons (fC (.int 10)) aNil))))
    (sSeq (sIf (fBl (f2 gLt (fVar 2) (fC (.int 2)))) (sRet (fTup (aCons (fC (.str "folder")) (aCons (fVar 1) aNil)))) sPass)
    (sSeq (sIf (fBl (f2 gLt (fVar 2) (fC (.int 4)))) (sRet (fTup (aCons (fC (.str "file")) (aCons (fVar 1) (aCons (fCall F_law_text (aCons (fVar 0) aNil)) aNil))))) sPass)
    (sSeq (sIf (fBl (f2 gEq (fVar 2) (fC (.int 4)))) (sRet (fTup (aCons (fC (.str "write")) (aCons (fVar 1) (aCons (fCall F_law_pick (aCons (fVar 0) (aCons (fLst (aCons (fC (.int 0)) (aCons (fC (.int 0)) (aCons (fC (.int 1)) (aCons (fC (.int 2)) (aCons (fC (.int 50)) aNil)))))) aNil))) (aCons (fCall F_law_text (aCons (fVar 0) aNil)) aNil)))))) sPass)
    (sSeq (sIf (fBl (f2 gEq (fVar 2) (fC (.int 5)))) (sRet (fTup (aCons (fC (.str "cut")) (aCons (fVar 1) (aCons (fCall F_law_pick (aCons (fVar 0) (aCons (fLst (aCons (fC (.int 0)) (aCons (fC (.int 1)) (aCons (fC (.int 2)) (aCons (fC (.int 49)) (aCons (fC (.int 51)) aNil)))))) aNil))) aNil))))) sPass)
    (sSeq (sIf (fBl (f2 gEq (fVar 2) (fC (.int 6)))) (sRet (fTup (aCons (fC (.str "link")) (aCons (fVar 1) (aCons (fCall F_law_way (aCons (fVar 0) aNil)) aNil))))) sPass)
    (sSeq (sIf (fBl (f2 gLt (fVar 2) (fC (.int 9)))) (sRet (fTup (aCons (fC (.str "move")) (aCons (fVar 1) (aCons (fCall F_law_way (aCons (fVar 0) aNil)) aNil))))) sPass)
    (sRet (fTup (aCons (fC (.str "drop")) (aCons (fVar 1) aNil))))))))))))
def F_law_simple : List D → Mem → Res D := fnD N_law_simple B_law_simple
abbrev N_law_one : List Str := ["world", "deed", "wrong", "number"]
def B_law_one : Mn.Env → Mem → Out := (sSeq (sIf (fBl (f2 (gIn2 false) (f2 gIx2 (fVar 1) (fC (.int 0))) (fLst (aCons (fC (.str "folder")) (aCons (fC (.str "file")) aNil))))) (sRet (fCall F_law_make (aCons (fVar 0) (aCons (fVar 1) aNil)))) sPass)
    (sSeq (sSet 2 (fCall F_law_above (aCons (fVar 0) (aCons (f2 gIx2 (fVar 1) (fC (.int 1))) aNil))))
    (sSeq (sIf (fBl (f2 gNe (fVar 2) (fC (.str "")))) (sRet (fVar 2)) sPass)
    (sSeq (sExpr (fCall F_law_look (aCons (fVar 0) (aCons (f2 gIx2 (fVar 1) (fC (.int 1))) aNil))))
    (sSeq (sSet 3 (fGet2 (f2 gIx2 (fVar 0) (fC (.str "ways"))) (f2 gIx2 (fVar 1) (fC (.int 1))) (fC .non)))
    (sSeq (sIf (fBl (f2 gIsN (fVar 3) (fC .non))) (sRet (fC (.str "NotThere"))) sPass)
    (sSeq (sIf (fAnd (fBl (f2 (gIn2 false) (f2 gIx2 (fVar 1) (fC (.int 0))) (fLst (aCons (fC (.str "write")) (aCons (fC (.str "cut")) (aCons (fC (.str "link")) aNil)))))) (fBl (f2 gIsN (f2 gIx2 (f2 gIx2 (fVar 0) (fC (.str "texts"))) (fVar 3)) (fC .non)))) (sRet (fC (.str "NotFile"))) sPass)
    (sSeq (sIf (fBl (f2 (gIn2 false) (f2 gIx2 (fVar 1) (fC (.int 0))) (fLst (aCons (fC (.str "write")) (aCons (fC (.str "cut")) aNil))))) (sRet (fCall F_law_fill (aCons (fVar 0) (aCons (fVar 1) (aCons (fVar 3) aNil))))) sPass)
    (sRet (fIf (fBl (f2 gEq (f2 gIx2 (fVar 1) (fC (.int 0))) (fC (.str "drop")))) (fCall F_law_drop (aCons (fVar 0) (aCons (fVar 1) (aCons (fVar 3) aNil)))) (fCall F_law_second (aCons (fVar 0) (aCons (fVar 1) (aCons (fVar 3) aNil))))))))))))))
def F_law_one : List D → Mem → Res D := fnD N_law_one B_law_one
abbrev N_law_near_one : List Str := ["row", "world", "kind", "way"]
def B_law_near_one : Mn.Env → Mem → Out := (sSeq (sSet 2 (fCall F_law_taken (aCons (fVar 0) (aCons (fC (.int 10)) aNil))))
    (sSeq (sSet 3 (fCall F_law_spot (aCons (fVar 0) (aCons (fVar 1) (aCons (f2 gLt (fVar 2) (fC (.int 4))) aNil)))))
    (sSeq (sIf (fBl (f2 gLt (fVar 2) (fC (.int 2)))) (sRet (fTup (aCons (fC (.str "folder")) (aCons (fVar 3) aNil)))) sPass)
    (sSeq (sIf (fBl (f2 gLt (fVar 2) (fC (.int 4)))) (sRet (fTup (aCons (fC (.str "file")) (aCons (fVar 3) (aCons (fCall F_law_text (aCons (fVar 0) aNil)) aNil))))) sPass)
    (sSeq (sIf (fBl (f2 gEq (fVar 2) (fC (.int 4)))) (sRet (fTup (aCons (fC (.str "write")) (aCons (fVar 3) (aCons (fCall F_law_pick (aCons (fVar 0) (aCons (fLst (aCons (fC (.int 0)) (aCons (fC (.int 0)) (aCons (fC (.int 1)) (aCons (fC (.int 2)) (aCons (fC (.int 50)) aNil)))))) aNil))) (aCons (fCall F_law_text (aCons (fVar 0) aNil)) aNil)))))) sPass)
    (sSeq (sIf (fBl (f2 gEq (fVar 2) (fC (.int 5)))) (sRet (fTup (aCons (fC (.str "cut")) (aCons (fVar 3) (aCons (fCall F_law_pick (aCons (fVar 0) (aCons (fLst (aCons (fC (.int 0)) (aCons (fC (.int 1)) (aCons (fC (.int 2)) (aCons (fC (.int 49)) (aCons (fC (.int 51)) aNil)))))) aNil))) aNil))))) sPass)
    (sSeq (sIf (fBl (f2 gEq (fVar 2) (fC (.int 9)))) (sRet (fTup (aCons (fC (.str "drop")) (aCons (fVar 3) aNil)))) sPass)
    (sRet (fTup (aCons (fIf (fBl (f2 gEq (fVar 2) (fC (.int 6)))) (fC (.str "link")) (fC (.str "move"))) (aCons (fVar 3) (aCons (fCall F_law_spot (aCons (fVar 0) (aCons (fVar 1) (aCons (f2 gGt (fCall F_law_taken (aCons (fVar 0) (aCons (fC (.int 3)) aNil))) (fC (.int 0))) aNil)))) aNil))))))))))))
def F_law_near_one : List D → Mem → Res D := fnD N_law_near_one B_law_near_one
abbrev N_law_laid : List Str := ["ship", "thing", "number", "card", "new", "stamp", "text", "writes", "parts", "k", "piece", "some", "many", "tails", "pages", "sign"]
def B_law_laid : Mn.Env → Mem → Out := (sSeq (sPar3 5 6 7 (aCons (f2 gIx2 (fVar 3) (fC (.int 0))) (aCons (f2 gIx2 (fVar 3) (fC (.int 5))) (aCons (fLst aNil) aNil))))
    (sSeq (sSet 8 (fSl (fCall gLst2 (aCons (f2 gIx2 (f2 gIx2 (f2 gIx2 (fVar 0) (fC (.str "cards"))) (fVar 1)) (fC (.int 5))) aNil)) oNone (oSome (f2 gDiv (f2 gAdd (fCall gLen (aCons (fVar 6) aNil)) (fC (.int 49))) (fC (.int 50))))))
    (sSeq (sSet 8 (f2 gAdd (fVar 8) (f2 gMul2 (fLst (aCons (fC .non) aNil)) (f2 gSub (f2 gDiv (f2 gAdd (fCall gLen (aCons (fVar 6) aNil)) (fC (.int 49))) (fC (.int 50))) (fCall gLen (aCons (fVar 8) aNil))))))
    (sSeq (sFor (fSeq2 (fVar 4)) (gN 9) (sSeq (sSet 10 (fSl (fVar 6) (oSome (f2 gMul2 (fC (.int 50)) (fVar 9))) (oSome (f2 gAdd (f2 gMul2 (fC (.int 50)) (fVar 9)) (fC (.int 50))))))
    (sSeq (sSetIx2 (fVar 8) (fVar 9) (fTup (aCons (fPop1 (f2 gIx2 (fVar 0) (fC (.str "pages"))) (fC (.int 0))) (aCons (fVar 5) aNil))))
    (sSeq (sSet 11 (f2 gAdd (f2 gAdd (f2 gAdd (fLst (aCons (fC (.int 4)) (aCons (fVar 1) aNil))) (fCall F_law_in_bytes (aCons (fVar 5) (aCons (fC (.int 3)) aNil)))) (fLst (aCons (fVar 9) (aCons (fCall gLen (aCons (fVar 10) aNil)) aNil)))) (fComp [15] (fSeq2 (fVar 10)) (gN 15) ftYes (fCall gOrd (aCons (fVar 15) aNil)))))
    (sExpr (fApp (fVar 7) (aCons (fTup (aCons (f2 gIx2 (f2 gIx2 (fVar 8) (fVar 9)) (fC (.int 0))) (aCons (fCall F_law_page (aCons (fVar 11) aNil)) aNil))) aNil)))))))
    (sSeq (sSet 3 (f2 gAdd (fSl (fVar 3) oNone (oSome (fC (.int 5)))) (fTup (aCons (fCall gTupOf (aCons (fVar 8) aNil)) (aCons (f2 gIx2 (fVar 3) (fC (.int 6))) aNil)))))
    (sSeq (sSet 12 (fCall F_law_many_tails (aCons (fCall gLen (aCons (fCall F_law_body (aCons (fVar 3) aNil)) aNil)) aNil)))
    (sSeq (sAsgM (fTup (aCons (fCall gTupOf (aCons (fSl (f2 gIx2 (fVar 0) (fC (.str "pages"))) oNone (oSome (fVar 12))) aNil)) (aCons (fSl (f2 gIx2 (fVar 0) (fC (.str "pages"))) (oSome (fVar 12)) oNone) aNil))) (hTup 2 (hCons (hN 13) (hCons (hSub (fVar 0) (fC (.str "pages"))) hNil))))
    (sSeq (sSet 14 (fCall F_law_card_pages (aCons (fVar 1) (aCons (fVar 3) (aCons (fVar 13) aNil)))))
    (sSeq (sFor (fRng (aCons (fVar 12) aNil)) (gN 9) (sExpr (fApp (fVar 7) (aCons (fTup (aCons (f2 gIx2 (fVar 13) (fVar 9)) (aCons (f2 gIx2 (fVar 14) (f2 gAdd (fVar 9) (fC (.int 1)))) aNil))) aNil))))
    (sSeq (sExpr (fApp (fVar 7) (aCons (fTup (aCons (f2 gSub (f2 gAdd (fC (.int 3)) (f2 gMul2 (fC (.int 2)) (fVar 1))) (f2 gIx2 (f2 gIx2 (fVar 0) (fC (.str "sides"))) (fVar 1))) (aCons (f2 gIx2 (fVar 14) (fC (.int 0))) aNil))) aNil)))
    (sSeq (sAsgM (fTup (aCons (fVar 3) (aCons (fVar 13) (aCons (fC (.bl true)) aNil)))) (hTup 3 (hCons (hSub (f2 gIx2 (fVar 0) (fC (.str "cards"))) (fVar 1)) (hCons (hSub (f2 gIx2 (fVar 0) (fC (.str "tails"))) (fVar 1)) (hCons (hSub (f2 gIx2 (fVar 0) (fC (.str "busy"))) (fVar 1)) hNil)))))
    (sSeq (sSetIx2 (f2 gIx2 (fVar 0) (fC (.str "leaving"))) (fTup (aCons (fVar 2) (aCons (fVar 5) aNil))) (f2 gIx2 (fVar 3) (fC (.int 6))))
    (sRet (fVar 7))))))))))))))
def F_law_laid : List D → Mem → Res D := fnD N_law_laid B_law_laid
abbrev N_names_in : List Str := ["way"]
def B_names_in : Mn.Env → Mem → Out := (sSeq (sExpr (fCall F_check_way (aCons (fVar 0) aNil)))
    (sSeq (sIf (fBl (f2 gEq (fVar 0) (fC (.str "/")))) (sRet (fTup aNil)) sPass)
    (sRet (fCall gTupOf (aCons (fM1 gSplit (fSl (fVar 0) (oSome (fC (.int 1))) oNone) (fC (.str "/"))) aNil)))))
def F_names_in : List D → Mem → Res D := fnD N_names_in B_names_in
abbrev N_fits_form : List Str := ["value", "form"]
def B_fits_form : Mn.Env → Mem → Out := (sSeq (sIf (fBl (f2 gEq (fVar 1) (fC (.str "way")))) (sRet (fCall F_is_lower_way (aCons (fVar 0) aNil))) sPass)
    (sSeq (sIf (fBl (f2 gEq (fVar 1) (fC (.str "contents")))) (sRet (fCall F_is_contents (aCons (fVar 0) aNil))) sPass)
    (sRet (fCall F_is_number (aCons (fVar 0) (aCons (fC (.int 0)) (aCons (fC (.int 2000)) aNil)))))))
def F_fits_form : List D → Mem → Res D := fnD N_fits_form B_fits_form
abbrev N_is_told : List Str := ["value"]
def B_is_told : Mn.Env → Mem → Out := (sSeq (sIf (fOr (fNot (fTru (fIsi ["tuple"] (fVar 0)))) (fOr (fBl (f2 gEq (fCall gLen (aCons (fVar 0) aNil)) (fC (.int 0)))) (fNot (fTru (fIsi ["str"] (f2 gIx2 (fVar 0) (fC (.int 0)))))))) (sRet (fC (.bl false))) sPass)
    (sSeq (sIf (fOr (fBl (fInK true [("blank", .int 1), ("head", .int 5), ("card", .int 7), ("tail", .int 5), ("data", .int 5)] (f2 gIx2 (fVar 0) (fC (.int 0))))) (fBl (f2 gNe (fCall gLen (aCons (fVar 0) aNil)) (fIxK [("blank", .int 1), ("head", .int 5), ("card", .int 7), ("tail", .int 5), ("data", .int 5)] (f2 gIx2 (fVar 0) (fC (.int 0))))))) (sRet (fC (.bl false))) sPass)
    (sSeq (sIf (fBl (f2 gEq (f2 gIx2 (fVar 0) (fC (.int 0))) (fC (.str "head")))) (sRet (fCall F_is_told_head (aCons (fVar 0) aNil))) sPass)
    (sSeq (sIf (fBl (f2 gEq (f2 gIx2 (fVar 0) (fC (.int 0))) (fC (.str "card")))) (sRet (fCall F_is_told_card (aCons (fVar 0) aNil))) sPass)
    (sSeq (sIf (fBl (f2 gEq (f2 gIx2 (fVar 0) (fC (.int 0))) (fC (.str "tail")))) (sRet (fCall F_is_told_tail (aCons (fVar 0) aNil))) sPass)
    (sRet (vOr (f2 gEq (f2 gIx2 (fVar 0) (fC (.int 0))) (fC (.str "blank"))) (fCall F_is_told_data (aCons (fVar 0) aNil)))))))))
def F_is_told : List D → Mem → Res D := fnD N_is_told B_is_told
abbrev N_pages_of_card : List Str := ["thing", "card", "tails", "some", "first", "told", "found", "index", "begin", "piece"]
def B_pages_of_card : Mn.Env → Mem → Out := (sSeq (sSet 3 (fCall F_octets_of_card (aCons (fVar 1) aNil)))
    (sSeq (sSet 4 (f2 gSub (fC (.int 49)) (fCall gLen (aCons (fVar 2) aNil))))
    (sSeq (sSet 5 (fTup (aCons (fC (.str "card")) (aCons (fVar 0) (aCons (f2 gIx2 (fVar 1) (fC (.int 0))) (aCons (f2 gIx2 (fVar 1) (fC (.int 1))) (aCons (fCall gLen (aCons (fVar 3) aNil)) (aCons (fVar 2) (aCons (fCall F_padded (aCons (fSl (fVar 3) oNone (oSome (fVar 4))) (aCons (fVar 4) aNil))) aNil)))))))))
    (sSeq (sSet 6 (fLst (aCons (fCall F_page_by (aCons (fVar 5) aNil)) aNil)))
    (sSeq (sFor (fRng (aCons (fCall gLen (aCons (fVar 2) aNil)) aNil)) (gN 7) (sSeq (sSet 8 (f2 gAdd (fVar 4) (f2 gMul2 (fC (.int 54)) (fVar 7))))
    (sSeq (sSet 9 (fCall F_padded (aCons (fSl (fVar 3) (oSome (fVar 8)) (oSome (f2 gAdd (fVar 8) (fC (.int 54))))) (aCons (fC (.int 54)) aNil))))
    (sExpr (fApp (fVar 6) (aCons (fCall F_page_by (aCons (fTup (aCons (fC (.str "tail")) (aCons (fVar 0) (aCons (f2 gIx2 (fVar 1) (fC (.int 0))) (aCons (fVar 7) (aCons (fVar 9) aNil)))))) aNil)) aNil))))))
    (sRet (fCall gTupOf (aCons (fVar 6) aNil))))))))
def F_pages_of_card : List D → Mem → Res D := fnD N_pages_of_card B_pages_of_card
abbrev N_law_deed : List Str := ["row", "turn"]
def B_law_deed : Mn.Env → Mem → Out := (sSeq (sIf (fBl (f2 gGt (fCall F_law_taken (aCons (fVar 0) (aCons (fC (.int 7)) aNil))) (fC (.int 0)))) (sRet (fCall F_law_simple (aCons (fVar 0) aNil))) sPass)
    (sRet (fTup (aCons (fC (.str "bundle")) (aCons (fCall gTupOf (aCons (fComp [1] (fRng (aCons (f2 gAdd (fC (.int 1)) (fCall F_law_taken (aCons (fVar 0) (aCons (fC (.int 3)) aNil)))) aNil)) (gN 1) ftYes (fCall F_law_simple (aCons (fVar 0) aNil))) aNil)) aNil)))))
def F_law_deed : List D → Mem → Res D := fnD N_law_deed B_law_deed
abbrev N_law_do : List Str := ["world", "deed", "mark", "later", "wrong", "one"]
def B_law_do : Mn.Env → Mem → Out := (sSeq (sPar 3 4 (aCons (fCall F_law_begun (aCons (fCall F_law_copied (aCons (fVar 0) aNil)) (aCons (fVar 2) aNil))) (aCons (fC (.str "")) aNil)))
    (sSeq (sFor (fSeq2 (fIf (fBl (f2 gEq (f2 gIx2 (fVar 1) (fC (.int 0))) (fC (.str "bundle")))) (f2 gIx2 (fVar 1) (fC (.int 1))) (fTup (aCons (fVar 1) aNil)))) (gN 5) (sSet 4 (fIf (fBl (f2 gEq (fVar 4) (fC (.str "")))) (fCall F_law_one (aCons (fVar 3) (aCons (fVar 5) aNil))) (fVar 4))))
    (sRet (fTup (aCons (fVar 4) (aCons (fVar 3) aNil))))))
def F_law_do : List D → Mem → Res D := fnD N_law_do B_law_do
abbrev N_is_line : List Str := ["value"]
def B_is_line : Mn.Env → Mem → Out := (sSeq (sIf (fOr (fNot (fTru (fIsi ["tuple"] (fVar 0)))) (fBl (f2 (gIn2 true) (fCall gLen (aCons (fVar 0) aNil)) (fTup (aCons (fC (.int 2)) (aCons (fC (.int 3)) aNil)))))) (sRet (fC (.bl false))) sPass)
    (sSeq (sIf (fOr (fNot (fTru (fCall F_is_lower_way (aCons (f2 gIx2 (fVar 0) (fC (.int 0))) aNil)))) (fNot (fTru (fIsi ["str"] (f2 gIx2 (fVar 0) (fC (.int 1))))))) (sRet (fC (.bl false))) sPass)
    (sSeq (sIf (fBl (f2 gEq (fCall gLen (aCons (fVar 0) aNil)) (fC (.int 2)))) (sRet (f2 gEq (f2 gIx2 (fVar 0) (fC (.int 1))) (fC (.str "folder")))) sPass)
    (sSeq (sIf (fBl (f2 gEq (f2 gIx2 (fVar 0) (fC (.int 1))) (fC (.str "file")))) (sRet (fCall F_is_contents (aCons (f2 gIx2 (fVar 0) (fC (.int 2))) aNil))) sPass)
    (sRet (vAnd (f2 gEq (f2 gIx2 (fVar 0) (fC (.int 1))) (fC (.str "same"))) (fCall F_is_lower_way (aCons (f2 gIx2 (fVar 0) (fC (.int 2))) aNil))))))))
def F_is_line : List D → Mem → Res D := fnD N_is_line B_is_line
abbrev N_check_lower_way : List Str := ["way"]
def B_check_lower_way : Mn.Env → Mem → Out := (sIf (fNot (fTru (fCall F_is_lower_way (aCons (fVar 0) aNil)))) (sRaise "BadWay") sPass)
def F_check_lower_way : List D → Mem → Res D := fnD N_check_lower_way B_check_lower_way
abbrev N_lies_below : List Str := ["one", "other"]
def B_lies_below : Mn.Env → Mem → Out := (sSeq (sExpr (fCall F_check_way (aCons (fVar 0) aNil)))
    (sSeq (sExpr (fCall F_check_way (aCons (fVar 1) aNil)))
    (sSeq (sIf (fBl (f2 gEq (fVar 1) (fC (.str "/")))) (sRet (f2 gNe (fVar 0) (fC (.str "/")))) sPass)
    (sRet (fCall F_is_below (aCons (fVar 0) (aCons (fVar 1) aNil)))))))
def F_lies_below : List D → Mem → Res D := fnD N_lies_below B_lies_below
abbrev N_told_by : List Str := ["page", "told"]
def B_told_by : Mn.Env → Mem → Out := (sSeq (sIf (fBl (f2 gEq (fVar 0) (fC (.tup [.int 0, .int 0, .int 0, .int 0, .int 0, .int 0, .int 0, .int 0, .int 0, .int 0, .int 0, .int 0, .int 0, .int 0, .int 0, .int 0, .int 0, .int 0, .int 0, .int 0, .int 0, .int 0, .int 0, .int 0, .int 0, .int 0, .int 0, .int 0, .int 0, .int 0, .int 0, .int 0, .int 0, .int 0, .int 0, .int 0, .int 0, .int 0, .int 0, .int 0, .int 0, .int 0, .int 0, .int 0, .int 0, .int 0, .int 0, .int 0, .int 0, .int 0, .int 0, .int 0, .int 0, .int 0, .int 0, .int 0, .int 0, .int 0, .int 0, .int 0, .int 0, .int 0, .int 0, .int 0])))) (sRet (fTup (aCons (fC (.str "blank")) aNil))) sPass)
    (sSeq (sIf (fOr (fBl (f2 gIsN (fVar 0) (fC .non))) (fBl (f2 gNe (fVar 0) (fCall F_octets_with_check (aCons (fSl (fVar 0) oNone (oSome (fC (.int 60)))) aNil))))) (sRet (fC (.tup [.str "bad"]))) sPass)
    (sSeq (sSet 1 (fCall F_guessed (aCons (fVar 0) aNil)))
    (sRet (fIf (fAnd (fTru (fCall F_is_told (aCons (fVar 1) aNil))) (fBl (f2 gEq (fCall F_page_by (aCons (fVar 1) aNil)) (fVar 0)))) (fVar 1) (fC (.tup [.str "bad"])))))))
def F_told_by : List D → Mem → Res D := fnD N_told_by B_told_by
abbrev N_law_behind : List Str := ["tree", "deeds", "past", "world", "place", "wrong"]
def B_law_behind : Mn.Env → Mem → Out := (sSeq (sSet 3 (fCall F_law_world (aCons (fVar 0) aNil)))
    (sSeq (sFor (fSeq2 (fVar 2)) (gN 4) (sSeq (sAsg (fCall F_law_do (aCons (fVar 3) (aCons (f2 gIx2 (fVar 1) (fVar 4)) (aCons (fVar 4) aNil)))) (gTupT 2 (gsCons (gN 5) (gsCons (gN 3) gsNil))))
    (sIf (fBl (f2 gNe (fVar 5) (fC (.str "")))) (sRet (fC .non)) sPass)))
    (sRet (fCall F_law_tree (aCons (fVar 3) aNil)))))
def F_law_behind : List D → Mem → Res D := fnD N_law_behind B_law_behind
abbrev N_law_near : List Str := ["row", "world", "turn"]
def B_law_near : Mn.Env → Mem → Out := (sSeq (sIf (fBl (f2 gEq (fCall F_law_taken (aCons (fVar 0) (aCons (fC (.int 4)) aNil))) (fC (.int 0)))) (sRet (fCall F_law_deed (aCons (fVar 0) aNil))) sPass)
    (sSeq (sIf (fBl (f2 gGt (fCall F_law_taken (aCons (fVar 0) (aCons (fC (.int 7)) aNil))) (fC (.int 0)))) (sRet (fCall F_law_near_one (aCons (fVar 0) (aCons (fVar 1) aNil)))) sPass)
    (sRet (fTup (aCons (fC (.str "bundle")) (aCons (fCall gTupOf (aCons (fComp [2] (fRng (aCons (f2 gAdd (fC (.int 1)) (fCall F_law_taken (aCons (fVar 0) (aCons (fC (.int 3)) aNil)))) aNil)) (gN 2) ftYes (fCall F_law_near_one (aCons (fVar 0) (aCons (fVar 1) aNil)))) aNil)) aNil))))))
def F_law_near : List D → Mem → Res D := fnD N_law_near B_law_near
abbrev N_above : List Str := ["way"]
def B_above : Mn.Env → Mem → Out := (sSeq (sExpr (fCall F_check_lower_way (aCons (fVar 0) aNil)))
    (sRet (fCall F_folder_of (aCons (fVar 0) aNil))))
def F_above : List D → Mem → Res D := fnD N_above B_above
abbrev N_last_name : List Str := ["way"]
def B_last_name : Mn.Env → Mem → Out := (sSeq (sExpr (fCall F_check_lower_way (aCons (fVar 0) aNil)))
    (sRet (fCall F_own_name (aCons (fVar 0) aNil))))
def F_last_name : List D → Mem → Res D := fnD N_last_name B_last_name
abbrev N_written_page : List Str := ["told"]
def B_written_page : Mn.Env → Mem → Out := (sSeq (sIf (fNot (fTru (fCall F_is_told (aCons (fVar 0) aNil)))) (sRaise "BadTold") sPass)
    (sRet (fCall F_page_by (aCons (fVar 0) aNil))))
def F_written_page : List D → Mem → Res D := fnD N_written_page B_written_page
abbrev N_head_number : List Str := ["image", "best", "greatest", "number", "told"]
def B_head_number : Mn.Env → Mem → Out := (sSeq (sSet 1 (fC .non))
    (sSeq (sSet 2 (fNeg (fC (.int 1))))
    (sSeq (sFor (fSeq2 (fC (.tup [.int 0, .int 1]))) (gN 3) (sSeq (sSet 4 (fCall F_told_by (aCons (f2 gIx2 (fVar 0) (fVar 3)) aNil)))
    (sIf (fAnd (fBl (f2 gEq (f2 gIx2 (fVar 4) (fC (.int 0))) (fC (.str "head")))) (fAnd (fBl (f2 gEq (f2 gAdd (fCall F_first_free (aCons (f2 gIx2 (fVar 4) (fC (.int 2))) aNil)) (f2 gIx2 (fVar 4) (fC (.int 3)))) (fCall gLen (aCons (fVar 0) aNil)))) (fBl (f2 gGt (f2 gIx2 (fVar 4) (fC (.int 1))) (fVar 2))))) (sSeq (sSet 1 (fVar 3))
    (sSet 2 (f2 gIx2 (fVar 4) (fC (.int 1))))) sPass)))
    (sRet (fVar 1)))))
def F_head_number : List D → Mem → Res D := fnD N_head_number B_head_number
abbrev N_contents_found : List Str := ["image", "first", "thing", "card", "pieces", "index", "page", "stamp", "told"]
def B_contents_found : Mn.Env → Mem → Out := (sSeq (sSet 4 (fLst aNil))
    (sSeq (sFor (fEnum (aCons (f2 gIx2 (fVar 3) (fC (.int 5))) aNil)) (gTupT 2 (gsCons (gN 5) (gsCons (gTupT 2 (gsCons (gN 6) (gsCons (gN 7) gsNil))) gsNil))) (sSeq (sSet 8 (fIf (fBl (fChain gLe gLt (fVar 1) (fVar 6) (fCall gLen (aCons (fVar 0) aNil)))) (fCall F_told_by (aCons (f2 gIx2 (fVar 0) (fVar 6)) aNil)) (fC (.tup [.str "bad"]))))
    (sSeq (sIf (fBl (f2 gNe (fSl (fVar 8) oNone (oSome (fC (.int 4)))) (fTup (aCons (fC (.str "data")) (aCons (fVar 2) (aCons (fVar 7) (aCons (fVar 5) aNil))))))) (sRet (fC .non)) sPass)
    (sSeq (sIf (fBl (f2 gNe (fCall gLen (aCons (f2 gIx2 (fVar 8) (fC (.int 4))) aNil)) (fCall gMin (aCons (fC (.int 50)) (aCons (f2 gSub (f2 gIx2 (fVar 3) (fC (.int 4))) (f2 gMul2 (fC (.int 50)) (fVar 5))) aNil))))) (sRet (fC .non)) sPass)
    (sExpr (fApp (fVar 4) (aCons (f2 gIx2 (fVar 8) (fC (.int 4))) aNil)))))))
    (sRet (fM1 gJoin (fC (.str "")) (fVar 4)))))
def F_contents_found : List D → Mem → Res D := fnD N_contents_found B_contents_found
abbrev N_stamp_found : List Str := ["image", "stamps", "page", "told"]
def B_stamp_found : Mn.Env → Mem → Out := (sSeq (sSet 1 (fLst (aCons (fC (.int 0)) aNil)))
    (sSeq (sFor (fSeq2 (fVar 0)) (gN 2) (sSeq (sSet 3 (fCall F_told_by (aCons (fVar 2) aNil)))
    (sIf (fBl (f2 (gIn2 false) (f2 gIx2 (fVar 3) (fC (.int 0))) (fTup (aCons (fC (.str "card")) (aCons (fC (.str "tail")) (aCons (fC (.str "data")) aNil)))))) (sExpr (fApp (fVar 1) (aCons (f2 gIx2 (fVar 3) (fC (.int 2))) aNil))) sPass)))
    (sRet (fCall gMax (aCons (fVar 1) aNil)))))
def F_stamp_found : List D → Mem → Res D := fnD N_stamp_found B_stamp_found
abbrev N_law_deeds : List Str := ["row", "world", "many", "deeds", "worlds", "turn", "deed", "wrong", "later"]
def B_law_deeds : Mn.Env → Mem → Out := (sSeq (sPar 3 4 (aCons (fTup aNil) (aCons (fLst (aCons (fVar 1) aNil)) aNil)))
    (sSeq (sFor (fRng (aCons (f2 gMul2 (fC (.int 4)) (fVar 2)) aNil)) (gN 5) (sIf (fBl (f2 gLt (fCall gLen (aCons (fVar 3) aNil)) (fVar 2))) (sSeq (sSet 6 (fCall F_law_near (aCons (fVar 0) (aCons (f2 gIx2 (fVar 4) (fNeg (fC (.int 1)))) aNil))))
    (sSeq (sAsg (fCall F_law_do (aCons (f2 gIx2 (fVar 4) (fNeg (fC (.int 1)))) (aCons (fVar 6) (aCons (fCall gLen (aCons (fVar 3) aNil)) aNil)))) (gTupT 2 (gsCons (gN 7) (gsCons (gN 8) gsNil))))
    (sIf (fBl (f2 gEq (fVar 7) (fC (.str "")))) (sSeq (sSet 3 (f2 gAdd (fVar 3) (fTup (aCons (fVar 6) aNil))))
    (sExpr (fApp (fVar 4) (aCons (fVar 8) aNil)))) sPass))) sPass))
    (sRet (fTup (aCons (fVar 3) (aCons (fVar 4) aNil))))))
def F_law_deeds : List D → Mem → Res D := fnD N_law_deeds B_law_deeds
abbrev N_told_page : List Str := ["page"]
def B_told_page : Mn.Env → Mem → Out := (sSeq (sIf (fNot (fTru (fCall F_is_page (aCons (fVar 0) aNil)))) (sRaise "BadPage") sPass)
    (sRet (fCall F_told_by (aCons (fVar 0) aNil))))
def F_told_page : List D → Mem → Res D := fnD N_told_page B_told_page
abbrev N_greatest_stamp : List Str := ["image"]
def B_greatest_stamp : Mn.Env → Mem → Out := (sSeq (sExpr (fCall F_check_image (aCons (fVar 0) aNil)))
    (sRet (fCall F_stamp_found (aCons (fVar 0) aNil))))
def F_greatest_stamp : List D → Mem → Res D := fnD N_greatest_stamp B_greatest_stamp
abbrev N_law_alike : List Str := ["found", "due", "k"]
def B_law_alike (FR : List D → Mem → Res D) : Mn.Env → Mem → Out := (sSeq (sIf (fTru (fIsi ["tuple", "list"] (fVar 1))) (sSeq (sIf (fOr (fNot (fTru (fIsi ["tuple", "list"] (fVar 0)))) (fBl (f2 gNe (fIsi ["list"] (fVar 0)) (fIsi ["list"] (fVar 1))))) (sRet (fC (.bl false))) sPass)
    (sSeq (sIf (fBl (f2 gNe (fCall gLen (aCons (fVar 0) aNil)) (fCall gLen (aCons (fVar 1) aNil)))) (sRet (fC (.bl false))) sPass)
    (sRet (f2 gEq (fComp [2] (fRng (aCons (fCall gLen (aCons (fVar 1) aNil)) aNil)) (gN 2) (fNot (fTru (fCall FR (aCons (f2 gIx2 (fVar 0) (fVar 2)) (aCons (f2 gIx2 (fVar 1) (fVar 2)) aNil))))) (fVar 2)) (fLst aNil))))) sPass)
    (sSeq (sIf (fOr (fBl (f2 gIsN (fVar 1) (fC .non))) (fTru (fIsi ["str"] (fVar 1)))) (sRet (vAnd (f2 gEq (fVar 0) (fVar 1)) (f2 gEq (fIsi ["str"] (fVar 0)) (fIsi ["str"] (fVar 1))))) sPass)
    (sRet (vAnd (fIsi ["int"] (fVar 0)) (vAnd (f2 gEq (fIsi ["bool"] (fVar 0)) (fIsi ["bool"] (fVar 1))) (f2 gEq (fVar 0) (fVar 1)))))))
def F_law_alike : Nat → List D → Mem → Res D
  | 0 => fun _ _ => .bad
  | n + 1 => fnD N_law_alike (B_law_alike (F_law_alike n))
end Pk
end
section
set_option Elab.async false
set_option linter.all false
set_option maxRecDepth 100000
set_option maxHeartbeats 4000000
open PySem L2 Mn Pk
namespace Pm
theorem kb_NoneType_int : kitB "NoneType" "int" = some false := rfl
theorem kb_NoneType_str : kitB "NoneType" "str" = some false := rfl
theorem kb_NoneType_bool : kitB "NoneType" "bool" = some false := rfl
theorem kb_NoneType_tuple : kitB "NoneType" "tuple" = some false := rfl
theorem kb_NoneType_list : kitB "NoneType" "list" = some false := rfl
theorem kb_NoneType_dict : kitB "NoneType" "dict" = some false := rfl
theorem kb_bool_int : kitB "bool" "int" = some true := rfl
theorem kb_bool_str : kitB "bool" "str" = some false := rfl
theorem kb_bool_bool : kitB "bool" "bool" = some true := rfl
theorem kb_bool_tuple : kitB "bool" "tuple" = some false := rfl
theorem kb_bool_list : kitB "bool" "list" = some false := rfl
theorem kb_bool_dict : kitB "bool" "dict" = some false := rfl
theorem kb_int_int : kitB "int" "int" = some true := rfl
theorem kb_int_str : kitB "int" "str" = some false := rfl
theorem kb_int_bool : kitB "int" "bool" = some false := rfl
theorem kb_int_tuple : kitB "int" "tuple" = some false := rfl
theorem kb_int_list : kitB "int" "list" = some false := rfl
theorem kb_int_dict : kitB "int" "dict" = some false := rfl
theorem kb_str_int : kitB "str" "int" = some false := rfl
theorem kb_str_str : kitB "str" "str" = some true := rfl
theorem kb_str_bool : kitB "str" "bool" = some false := rfl
theorem kb_str_tuple : kitB "str" "tuple" = some false := rfl
theorem kb_str_list : kitB "str" "list" = some false := rfl
theorem kb_str_dict : kitB "str" "dict" = some false := rfl
theorem kb_tuple_int : kitB "tuple" "int" = some false := rfl
theorem kb_tuple_str : kitB "tuple" "str" = some false := rfl
theorem kb_tuple_bool : kitB "tuple" "bool" = some false := rfl
theorem kb_tuple_tuple : kitB "tuple" "tuple" = some true := rfl
theorem kb_tuple_list : kitB "tuple" "list" = some false := rfl
theorem kb_tuple_dict : kitB "tuple" "dict" = some false := rfl
theorem kb_list_int : kitB "list" "int" = some false := rfl
theorem kb_list_str : kitB "list" "str" = some false := rfl
theorem kb_list_bool : kitB "list" "bool" = some false := rfl
theorem kb_list_tuple : kitB "list" "tuple" = some false := rfl
theorem kb_list_list : kitB "list" "list" = some true := rfl
theorem kb_list_dict : kitB "list" "dict" = some false := rfl
theorem kb_dict_int : kitB "dict" "int" = some false := rfl
theorem kb_dict_str : kitB "dict" "str" = some false := rfl
theorem kb_dict_bool : kitB "dict" "bool" = some false := rfl
theorem kb_dict_tuple : kitB "dict" "tuple" = some false := rfl
theorem kb_dict_list : kitB "dict" "list" = some false := rfl
theorem kb_dict_dict : kitB "dict" "dict" = some true := rfl
section
variable {α β : Type} {a : α} {m m1 : Mem} {ρ : Mn.Env} {e : Exc} {k : α → Mem → Res β} {k' : α → Mem → Out} {F G : Mn.Env → Mem → Out}
theorem bd_ok : (Res.ok a m).bind k = k a m := rfl
theorem bd_ex : (Res.ex e m : Res α).bind k = .ex e m := rfl
theorem bd_bad : (Res.bad : Res α).bind k = .bad := rfl
theorem rs_ok : resS (Res.ok a m) ρ k' = k' a m := rfl
theorem rs_ex : resS (Res.ex e m : Res α) ρ k' = .ex e ρ m := rfl
theorem rs_bad : resS (Res.bad : Res α) ρ k' = .bad := rfl
theorem nx_ok : noex (Res.ok a m) = .ok a m := rfl
theorem ite_res {c : Bool} {x y : Out} : (match c with | true => x | false => y) = if c then x else y := by cases c <;> rfl
theorem tr_non : truD .non m = .ok false m := rfl
theorem tr_bl {b : Bool} : truD (.bl b) m = .ok b m := rfl
theorem tr_int {i : Int} : truD (.int i) m = .ok (i != 0) m := rfl
theorem tr_tup {ds : List D} : truD (.tup ds) m = .ok (!ds.isEmpty) m := rfl
theorem tr_rol {ds : List D} : truD (.rol ds) m = .ok (!ds.isEmpty) m := rfl
theorem bl_b {b : Bool} : blD (.bl b) m = .ok b m := rfl
theorem ty_non : tyD .non m = some "NoneType" := rfl
theorem ty_bl {b : Bool} : tyD (.bl b) m = some "bool" := rfl
theorem ty_int {i : Int} : tyD (.int i) m = some "int" := rfl
theorem ty_str {i : Str} : tyD (.str i) m = some "str" := rfl
theorem ty_tup {i : List D} : tyD (.tup i) m = some "tuple" := rfl
theorem ty_rol {i : List D} : tyD (.rol i) m = some "list" := rfl
theorem ty_lst {n : Nat} {ds : List D} (h : m[n]? = some (.lst ds)) : tyD (.ref n) m = some "list" := by simp only [tyD, h]
theorem ty_dic {n : Nat} {ks : List Key} {ds : List D} (h : m[n]? = some (.dic ks ds)) : tyD (.ref n) m = some "dict" := by simp only [tyD, h]
theorem addI {a c : Int} : gAdd (.int a) (.int c) m = .ok (.int (a + c)) m := rfl
theorem subI {a c : Int} : Mn.gSub (.int a) (.int c) m = .ok (.int (a - c)) m := rfl
theorem mulI {a c : Int} (h : cMul a c = true) : gMul2 (.int a) (.int c) m = .ok (.int (a * c)) m := by
  show (if cMul a c = true then _ else _) = _
  rw [if_pos h]
theorem set_nil {α : Type} {i : Nat} {x : α} : ([] : List α).set i x = [] := rfl
end


theorem tup0 {m : Mem} : tupD [] m = .ok (.tup []) m := if_pos (show ([] : List D).length ≤ 16777216 from Nat.le_of_ble_eq_true rfl)
theorem lst0 {m : Mem} : lstD [] m = .ok (.ref m.length) (m ++ [.lst []]) := if_pos (show ([] : List D).length ≤ 16777216 from Nat.le_of_ble_eq_true rfl)
theorem tup1 {x0 : D} {m : Mem} : tupD [x0] m = .ok (.tup [x0]) m := if_pos (show ([x0] : List D).length ≤ 16777216 from Nat.le_of_ble_eq_true rfl)
theorem lst1 {x0 : D} {m : Mem} : lstD [x0] m = .ok (.ref m.length) (m ++ [.lst [x0]]) := if_pos (show ([x0] : List D).length ≤ 16777216 from Nat.le_of_ble_eq_true rfl)
theorem tup2 {x0 x1 : D} {m : Mem} : tupD [x0, x1] m = .ok (.tup [x0, x1]) m := if_pos (show ([x0, x1] : List D).length ≤ 16777216 from Nat.le_of_ble_eq_true rfl)
theorem lst2 {x0 x1 : D} {m : Mem} : lstD [x0, x1] m = .ok (.ref m.length) (m ++ [.lst [x0, x1]]) := if_pos (show ([x0, x1] : List D).length ≤ 16777216 from Nat.le_of_ble_eq_true rfl)
theorem tup3 {x0 x1 x2 : D} {m : Mem} : tupD [x0, x1, x2] m = .ok (.tup [x0, x1, x2]) m := if_pos (show ([x0, x1, x2] : List D).length ≤ 16777216 from Nat.le_of_ble_eq_true rfl)
theorem lst3 {x0 x1 x2 : D} {m : Mem} : lstD [x0, x1, x2] m = .ok (.ref m.length) (m ++ [.lst [x0, x1, x2]]) := if_pos (show ([x0, x1, x2] : List D).length ≤ 16777216 from Nat.le_of_ble_eq_true rfl)
theorem tup4 {x0 x1 x2 x3 : D} {m : Mem} : tupD [x0, x1, x2, x3] m = .ok (.tup [x0, x1, x2, x3]) m := if_pos (show ([x0, x1, x2, x3] : List D).length ≤ 16777216 from Nat.le_of_ble_eq_true rfl)
theorem lst4 {x0 x1 x2 x3 : D} {m : Mem} : lstD [x0, x1, x2, x3] m = .ok (.ref m.length) (m ++ [.lst [x0, x1, x2, x3]]) := if_pos (show ([x0, x1, x2, x3] : List D).length ≤ 16777216 from Nat.le_of_ble_eq_true rfl)
theorem tup5 {x0 x1 x2 x3 x4 : D} {m : Mem} : tupD [x0, x1, x2, x3, x4] m = .ok (.tup [x0, x1, x2, x3, x4]) m := if_pos (show ([x0, x1, x2, x3, x4] : List D).length ≤ 16777216 from Nat.le_of_ble_eq_true rfl)
theorem lst5 {x0 x1 x2 x3 x4 : D} {m : Mem} : lstD [x0, x1, x2, x3, x4] m = .ok (.ref m.length) (m ++ [.lst [x0, x1, x2, x3, x4]]) := if_pos (show ([x0, x1, x2, x3, x4] : List D).length ≤ 16777216 from Nat.le_of_ble_eq_true rfl)
theorem tup6 {x0 x1 x2 x3 x4 x5 : D} {m : Mem} : tupD [x0, x1, x2, x3, x4, x5] m = .ok (.tup [x0, x1, x2, x3, x4, x5]) m := if_pos (show ([x0, x1, x2, x3, x4, x5] : List D).length ≤ 16777216 from Nat.le_of_ble_eq_true rfl)
theorem lst6 {x0 x1 x2 x3 x4 x5 : D} {m : Mem} : lstD [x0, x1, x2, x3, x4, x5] m = .ok (.ref m.length) (m ++ [.lst [x0, x1, x2, x3, x4, x5]]) := if_pos (show ([x0, x1, x2, x3, x4, x5] : List D).length ≤ 16777216 from Nat.le_of_ble_eq_true rfl)
theorem tup7 {x0 x1 x2 x3 x4 x5 x6 : D} {m : Mem} : tupD [x0, x1, x2, x3, x4, x5, x6] m = .ok (.tup [x0, x1, x2, x3, x4, x5, x6]) m := if_pos (show ([x0, x1, x2, x3, x4, x5, x6] : List D).length ≤ 16777216 from Nat.le_of_ble_eq_true rfl)
theorem lst7 {x0 x1 x2 x3 x4 x5 x6 : D} {m : Mem} : lstD [x0, x1, x2, x3, x4, x5, x6] m = .ok (.ref m.length) (m ++ [.lst [x0, x1, x2, x3, x4, x5, x6]]) := if_pos (show ([x0, x1, x2, x3, x4, x5, x6] : List D).length ≤ 16777216 from Nat.le_of_ble_eq_true rfl)
theorem tup8 {x0 x1 x2 x3 x4 x5 x6 x7 : D} {m : Mem} : tupD [x0, x1, x2, x3, x4, x5, x6, x7] m = .ok (.tup [x0, x1, x2, x3, x4, x5, x6, x7]) m := if_pos (show ([x0, x1, x2, x3, x4, x5, x6, x7] : List D).length ≤ 16777216 from Nat.le_of_ble_eq_true rfl)
theorem lst8 {x0 x1 x2 x3 x4 x5 x6 x7 : D} {m : Mem} : lstD [x0, x1, x2, x3, x4, x5, x6, x7] m = .ok (.ref m.length) (m ++ [.lst [x0, x1, x2, x3, x4, x5, x6, x7]]) := if_pos (show ([x0, x1, x2, x3, x4, x5, x6, x7] : List D).length ≤ 16777216 from Nat.le_of_ble_eq_true rfl)
theorem tup9 {x0 x1 x2 x3 x4 x5 x6 x7 x8 : D} {m : Mem} : tupD [x0, x1, x2, x3, x4, x5, x6, x7, x8] m = .ok (.tup [x0, x1, x2, x3, x4, x5, x6, x7, x8]) m := if_pos (show ([x0, x1, x2, x3, x4, x5, x6, x7, x8] : List D).length ≤ 16777216 from Nat.le_of_ble_eq_true rfl)
theorem lst9 {x0 x1 x2 x3 x4 x5 x6 x7 x8 : D} {m : Mem} : lstD [x0, x1, x2, x3, x4, x5, x6, x7, x8] m = .ok (.ref m.length) (m ++ [.lst [x0, x1, x2, x3, x4, x5, x6, x7, x8]]) := if_pos (show ([x0, x1, x2, x3, x4, x5, x6, x7, x8] : List D).length ≤ 16777216 from Nat.le_of_ble_eq_true rfl)
theorem tup10 {x0 x1 x2 x3 x4 x5 x6 x7 x8 x9 : D} {m : Mem} : tupD [x0, x1, x2, x3, x4, x5, x6, x7, x8, x9] m = .ok (.tup [x0, x1, x2, x3, x4, x5, x6, x7, x8, x9]) m := if_pos (show ([x0, x1, x2, x3, x4, x5, x6, x7, x8, x9] : List D).length ≤ 16777216 from Nat.le_of_ble_eq_true rfl)
theorem lst10 {x0 x1 x2 x3 x4 x5 x6 x7 x8 x9 : D} {m : Mem} : lstD [x0, x1, x2, x3, x4, x5, x6, x7, x8, x9] m = .ok (.ref m.length) (m ++ [.lst [x0, x1, x2, x3, x4, x5, x6, x7, x8, x9]]) := if_pos (show ([x0, x1, x2, x3, x4, x5, x6, x7, x8, x9] : List D).length ≤ 16777216 from Nat.le_of_ble_eq_true rfl)
theorem tup11 {x0 x1 x2 x3 x4 x5 x6 x7 x8 x9 x10 : D} {m : Mem} : tupD [x0, x1, x2, x3, x4, x5, x6, x7, x8, x9, x10] m = .ok (.tup [x0, x1, x2, x3, x4, x5, x6, x7, x8, x9, x10]) m := if_pos (show ([x0, x1, x2, x3, x4, x5, x6, x7, x8, x9, x10] : List D).length ≤ 16777216 from Nat.le_of_ble_eq_true rfl)
theorem lst11 {x0 x1 x2 x3 x4 x5 x6 x7 x8 x9 x10 : D} {m : Mem} : lstD [x0, x1, x2, x3, x4, x5, x6, x7, x8, x9, x10] m = .ok (.ref m.length) (m ++ [.lst [x0, x1, x2, x3, x4, x5, x6, x7, x8, x9, x10]]) := if_pos (show ([x0, x1, x2, x3, x4, x5, x6, x7, x8, x9, x10] : List D).length ≤ 16777216 from Nat.le_of_ble_eq_true rfl)
theorem tup12 {x0 x1 x2 x3 x4 x5 x6 x7 x8 x9 x10 x11 : D} {m : Mem} : tupD [x0, x1, x2, x3, x4, x5, x6, x7, x8, x9, x10, x11] m = .ok (.tup [x0, x1, x2, x3, x4, x5, x6, x7, x8, x9, x10, x11]) m := if_pos (show ([x0, x1, x2, x3, x4, x5, x6, x7, x8, x9, x10, x11] : List D).length ≤ 16777216 from Nat.le_of_ble_eq_true rfl)
theorem lst12 {x0 x1 x2 x3 x4 x5 x6 x7 x8 x9 x10 x11 : D} {m : Mem} : lstD [x0, x1, x2, x3, x4, x5, x6, x7, x8, x9, x10, x11] m = .ok (.ref m.length) (m ++ [.lst [x0, x1, x2, x3, x4, x5, x6, x7, x8, x9, x10, x11]]) := if_pos (show ([x0, x1, x2, x3, x4, x5, x6, x7, x8, x9, x10, x11] : List D).length ≤ 16777216 from Nat.le_of_ble_eq_true rfl)
/-! the draw's row stands first in the memory -/
def IsRow (ns : List Int) (o : Mn.Obj) : Prop := ∃ p q e : Int, o = .lst [.rol (ns.map D.int), .int p, .int q, .int e] ∧ 0 ≤ p
section
variable {m : Mem} {n : Nat} {d x : D} {o : Mn.Obj} {r : Mem}
theorem ix2L {xs : List D} {k : Int} (h : m[n]? = some (.lst xs)) (h2 : atI xs k = some d) : gIx2 (.ref n) (.int k) m = .ok d m := by
  unfold gIx2
  simp only [h]
  exact lf_ixR h h2
theorem ix2T {xs : List D} {k : Int} (h2 : atI xs k = some d) : gIx2 (.tup xs) (.int k) m = .ok d m := lf_ixT h2
theorem ix2O {xs : List D} {k : Int} (h2 : atI xs k = some d) : gIx2 (.rol xs) (.int k) m = .ok d m := lf_ixO h2
theorem ix2_row {xs : List D} {k : Int} : gIx2 (.ref 0) (.int k) (.lst xs :: r) = (match atI xs k with | some d => .ok d (.lst xs :: r) | none => .bad) := by
  unfold gIx2
  simp only [List.getElem?_cons_zero, gIx]
  all_goals (cases atI xs k <;> rfl)
theorem mod_ {a c : Int} (h : 0 < c) : gMod (.int a) (.int c) m = .ok (.int (a % c)) m := lf_modI h
theorem div_ {a c : Int} (h : 0 < c) (h2 : c < 1073741824) : gDiv (.int a) (.int c) m = .ok (.int (a / c)) m := lf_divI h h2
theorem mul_ {a c : Int} (h : -18446744073709551616 < c ∧ c < 18446744073709551616) : gMul2 (.int a) (.int c) m = .ok (.int (a * c)) m := mulI (decide_eq_true (.inr h))
theorem mulL {a c : Int} (h : -18446744073709551616 < a ∧ a < 18446744073709551616) : gMul2 (.int a) (.int c) m = .ok (.int (a * c)) m := mulI (decide_eq_true (.inl h))
theorem atI_ints {ns : List Int} {p : Int} (h0 : 0 ≤ p) (h1 : p < ns.length) : ∃ z, atI (ns.map D.int) p = some (.int z) := by
  obtain ⟨k, rfl⟩ := Int.eq_ofNat_of_zero_le h0
  have hk : k < ns.length := by omega
  exact ⟨ns[k], by rw [atI_nat (j := k) (by rw [List.getElem?_map, List.getElem?_eq_getElem hk]; rfl)]⟩
theorem setrow {k : Int} {j : Nat} {xs : List D} {ρ : Mn.Env} (h : ixN xs.length k = some j) : (match (.ref 0 : D) with
  | .ref n => (match (.lst xs :: r : Mem)[n]? with
    | some (.lst ds) => (match (.int k : D) with
      | .int k => (match ixN ds.length k with
        | some j => .nx ρ ((.lst xs :: r : Mem).set n (.lst (ds.set j d)))
        | none => .bad)
      | _ => .bad)
    | some (.dic ks ds) => (match keyD (.int k) with
      | some k => if ks.length < 16777216 then .nx ρ ((.lst xs :: r : Mem).set n (.dic (putKs ks k) (putVs ks ds k d))) else .bad
      | none => .bad)
    | _ => .bad)
  | _ => .bad : Out) = .nx ρ (.lst (xs.set j d) :: r) := by
  simp only [List.getElem?_cons_zero, h, List.set_cons_zero]
theorem a4_0 {a b c e : D} : atI [a, b, c, e] 0 = some a := rfl
theorem a4_1 {a b c e : D} : atI [a, b, c, e] 1 = some b := rfl
theorem a4_2 {a b c e : D} : atI [a, b, c, e] 2 = some c := rfl
theorem a4_3 {a b c e : D} : atI [a, b, c, e] 3 = some e := rfl
theorem n4_1 : ixN 4 1 = some 1 := rfl
theorem n4_2 : ixN 4 2 = some 2 := rfl
theorem n4_3 : ixN 4 3 = some 3 := rfl
theorem pow18 : gPow (.int 10) (.int 18) m = .ok (.int (10 ^ 18)) m := lf_powI (by decide)
/-- one draw -/
theorem taken {ns : List Int} (h : IsRow ns o) (k : Int) (h0 : 0 < k) (h1 : k < 1073741824) : ∃ v o', F_law_taken [.ref 0, .int k] (o :: r) = .ok (.int v) (o' :: r) ∧ IsRow ns o' ∧ 0 ≤ v ∧ v < k := by
  obtain ⟨p, q, e, rfl, hp⟩ := h
  have nn : ∀ a : Int, 0 ≤ a % k := fun a => Int.emod_nonneg _ (by omega)
  have lt : ∀ a : Int, a % k < k := fun a => Int.emod_lt_of_pos _ h0
  by_cases he : 0 < e
  · refine ⟨e % k, .lst [.rol (ns.map D.int), .int p, .int q, .int (e / k)], ?_, ⟨p, q, _, rfl, hp⟩, nn _, lt _⟩
    unfold F_law_taken B_law_taken
    simp only [fnD, startE, List.map_cons, List.map_nil, List.length_cons, List.length_nil, List.replicate, List.cons_append, List.nil_append, Nat.reduceAdd, Nat.reduceSub, Nat.zero_add, sSeq, sIf, sSet, sRet, sRetN, sPass, sExpr, sRaise, sBrk, sCnt, bd_ok, bd_ex, bd_bad, rs_ok, rs_ex, rs_bad, nx_ok, fVar, fC, f2, fCall, aCons, aNil, vAnd, vOr, vNot, fAnd, fOr, fNot, fTru, tr_non, tr_bl, tr_int, tr_tup, tr_rol, fBl, bl_b, fIf, fIsi, gIsi, isiB, ty_non, ty_bl, ty_int, ty_str, ty_tup, ty_rol, fChain, lf_gtI, lf_ltI, lf_leI, lf_geI, addI, subI, List.getElem?_cons_zero, List.getElem?_cons_succ, List.set_cons_zero, List.set_cons_succ, fTup, fLst, tup0, lst0, tup1, lst1, tup2, lst2, tup3, lst3, tup4, lst4, tup5, lst5, tup6, lst6, tup7, lst7, tup8, lst8, tup9, lst9, tup10, lst10, tup11, lst11, tup12, lst12, fNeg, oSome, oNone, Bool.not_true, Bool.not_false, Bool.false_eq_true, if_true, if_false, ite_true, ite_false, lf_int, lf_lenT, lf_lenO, lf_truB, fM1, sSetIx2, sPar, sPar3, kb_NoneType_int, kb_NoneType_str, kb_NoneType_bool, kb_NoneType_tuple, kb_NoneType_list, kb_NoneType_dict, kb_bool_int, kb_bool_str, kb_bool_bool, kb_bool_tuple, kb_bool_list, kb_bool_dict, kb_int_int, kb_int_str, kb_int_bool, kb_int_tuple, kb_int_list, kb_int_dict, kb_str_int, kb_str_str, kb_str_bool, kb_str_tuple, kb_str_list, kb_str_dict, kb_tuple_int, kb_tuple_str, kb_tuple_bool, kb_tuple_tuple, kb_tuple_list, kb_tuple_dict, kb_list_int, kb_list_str, kb_list_bool, kb_list_tuple, kb_list_list, kb_list_dict, kb_dict_int, kb_dict_str, kb_dict_bool, kb_dict_tuple, kb_dict_list, kb_dict_dict, ix2_row, a4_3, mod_ h0, div_ h0 h1, decide_eq_true he, List.length_cons, n4_3]
  · by_cases hl : ((ns.map D.int).length : Int) < p + 1
    · refine ⟨((q * 48271 + 11) % 2147483647 / 7) % k, .lst [.rol (ns.map D.int), .int (p + 1), .int ((q * 48271 + 11) % 2147483647), .int e], ?_, ⟨p + 1, _, _, rfl, by omega⟩, nn _, lt _⟩
      unfold F_law_taken B_law_taken
      simp only [fnD, startE, List.map_cons, List.map_nil, List.length_cons, List.length_nil, List.replicate, List.cons_append, List.nil_append, Nat.reduceAdd, Nat.reduceSub, Nat.zero_add, sSeq, sIf, sSet, sRet, sRetN, sPass, sExpr, sRaise, sBrk, sCnt, bd_ok, bd_ex, bd_bad, rs_ok, rs_ex, rs_bad, nx_ok, fVar, fC, f2, fCall, aCons, aNil, vAnd, vOr, vNot, fAnd, fOr, fNot, fTru, tr_non, tr_bl, tr_int, tr_tup, tr_rol, fBl, bl_b, fIf, fIsi, gIsi, isiB, ty_non, ty_bl, ty_int, ty_str, ty_tup, ty_rol, fChain, lf_gtI, lf_ltI, lf_leI, lf_geI, addI, subI, List.getElem?_cons_zero, List.getElem?_cons_succ, List.set_cons_zero, List.set_cons_succ, fTup, fLst, tup0, lst0, tup1, lst1, tup2, lst2, tup3, lst3, tup4, lst4, tup5, lst5, tup6, lst6, tup7, lst7, tup8, lst8, tup9, lst9, tup10, lst10, tup11, lst11, tup12, lst12, fNeg, oSome, oNone, Bool.not_true, Bool.not_false, Bool.false_eq_true, if_true, if_false, ite_true, ite_false, lf_int, lf_lenT, lf_lenO, lf_truB, fM1, sSetIx2, sPar, sPar3, kb_NoneType_int, kb_NoneType_str, kb_NoneType_bool, kb_NoneType_tuple, kb_NoneType_list, kb_NoneType_dict, kb_bool_int, kb_bool_str, kb_bool_bool, kb_bool_tuple, kb_bool_list, kb_bool_dict, kb_int_int, kb_int_str, kb_int_bool, kb_int_tuple, kb_int_list, kb_int_dict, kb_str_int, kb_str_str, kb_str_bool, kb_str_tuple, kb_str_list, kb_str_dict, kb_tuple_int, kb_tuple_str, kb_tuple_bool, kb_tuple_tuple, kb_tuple_list, kb_tuple_dict, kb_list_int, kb_list_str, kb_list_bool, kb_list_tuple, kb_list_list, kb_list_dict, kb_dict_int, kb_dict_str, kb_dict_bool, kb_dict_tuple, kb_dict_list, kb_dict_dict, ix2_row, a4_0, a4_1, a4_2, a4_3, mod_ h0, div_ h0 h1, decide_eq_false he, decide_eq_true hl, n4_1, n4_2, n4_3,
        mul_ (show (-18446744073709551616 : Int) < 48271 ∧ (48271 : Int) < 18446744073709551616 by decide), mod_ (show (0 : Int) < 2147483647 by decide), div_ (show (0 : Int) < 7 by decide) (by decide)]
    · obtain ⟨z, hz⟩ := atI_ints (ns := ns) (p := p) hp (by rw [List.length_map] at hl; omega)
      have hz' : atI (ns.map D.int) (p + 1 - 1) = some (.int z) := by rw [show p + 1 - 1 = p by omega]; exact hz
      by_cases hb : (10 ^ 18 : Int) ≤ z
      · refine ⟨z % k, .lst [.rol (ns.map D.int), .int (p + 1), .int ((q * 48271 + z + 11) % 2147483647), .int (z / k)], ?_, ⟨p + 1, _, _, rfl, by omega⟩, nn _, lt _⟩
        unfold F_law_taken B_law_taken
        simp only [fnD, startE, List.map_cons, List.map_nil, List.length_cons, List.length_nil, List.replicate, List.cons_append, List.nil_append, Nat.reduceAdd, Nat.reduceSub, Nat.zero_add, sSeq, sIf, sSet, sRet, sRetN, sPass, sExpr, sRaise, sBrk, sCnt, bd_ok, bd_ex, bd_bad, rs_ok, rs_ex, rs_bad, nx_ok, fVar, fC, f2, fCall, aCons, aNil, vAnd, vOr, vNot, fAnd, fOr, fNot, fTru, tr_non, tr_bl, tr_int, tr_tup, tr_rol, fBl, bl_b, fIf, fIsi, gIsi, isiB, ty_non, ty_bl, ty_int, ty_str, ty_tup, ty_rol, fChain, lf_gtI, lf_ltI, lf_leI, lf_geI, addI, subI, List.getElem?_cons_zero, List.getElem?_cons_succ, List.set_cons_zero, List.set_cons_succ, fTup, fLst, tup0, lst0, tup1, lst1, tup2, lst2, tup3, lst3, tup4, lst4, tup5, lst5, tup6, lst6, tup7, lst7, tup8, lst8, tup9, lst9, tup10, lst10, tup11, lst11, tup12, lst12, fNeg, oSome, oNone, Bool.not_true, Bool.not_false, Bool.false_eq_true, if_true, if_false, ite_true, ite_false, lf_int, lf_lenT, lf_lenO, lf_truB, fM1, sSetIx2, sPar, sPar3, kb_NoneType_int, kb_NoneType_str, kb_NoneType_bool, kb_NoneType_tuple, kb_NoneType_list, kb_NoneType_dict, kb_bool_int, kb_bool_str, kb_bool_bool, kb_bool_tuple, kb_bool_list, kb_bool_dict, kb_int_int, kb_int_str, kb_int_bool, kb_int_tuple, kb_int_list, kb_int_dict, kb_str_int, kb_str_str, kb_str_bool, kb_str_tuple, kb_str_list, kb_str_dict, kb_tuple_int, kb_tuple_str, kb_tuple_bool, kb_tuple_tuple, kb_tuple_list, kb_tuple_dict, kb_list_int, kb_list_str, kb_list_bool, kb_list_tuple, kb_list_list, kb_list_dict, kb_dict_int, kb_dict_str, kb_dict_bool, kb_dict_tuple, kb_dict_list, kb_dict_dict, ix2_row, a4_0, a4_1, a4_2, a4_3, mod_ h0, div_ h0 h1, decide_eq_false he, decide_eq_false hl, n4_1, n4_2, n4_3, ix2O hz', pow18, decide_eq_true hb,
          mul_ (show (-18446744073709551616 : Int) < 48271 ∧ (48271 : Int) < 18446744073709551616 by decide), mod_ (show (0 : Int) < 2147483647 by decide), div_ (show (0 : Int) < 7 by decide) (by decide)]
      · refine ⟨z % k, .lst [.rol (ns.map D.int), .int (p + 1), .int ((q * 48271 + z + 11) % 2147483647), .int e], ?_, ⟨p + 1, _, _, rfl, by omega⟩, nn _, lt _⟩
        unfold F_law_taken B_law_taken
        simp only [fnD, startE, List.map_cons, List.map_nil, List.length_cons, List.length_nil, List.replicate, List.cons_append, List.nil_append, Nat.reduceAdd, Nat.reduceSub, Nat.zero_add, sSeq, sIf, sSet, sRet, sRetN, sPass, sExpr, sRaise, sBrk, sCnt, bd_ok, bd_ex, bd_bad, rs_ok, rs_ex, rs_bad, nx_ok, fVar, fC, f2, fCall, aCons, aNil, vAnd, vOr, vNot, fAnd, fOr, fNot, fTru, tr_non, tr_bl, tr_int, tr_tup, tr_rol, fBl, bl_b, fIf, fIsi, gIsi, isiB, ty_non, ty_bl, ty_int, ty_str, ty_tup, ty_rol, fChain, lf_gtI, lf_ltI, lf_leI, lf_geI, addI, subI, List.getElem?_cons_zero, List.getElem?_cons_succ, List.set_cons_zero, List.set_cons_succ, fTup, fLst, tup0, lst0, tup1, lst1, tup2, lst2, tup3, lst3, tup4, lst4, tup5, lst5, tup6, lst6, tup7, lst7, tup8, lst8, tup9, lst9, tup10, lst10, tup11, lst11, tup12, lst12, fNeg, oSome, oNone, Bool.not_true, Bool.not_false, Bool.false_eq_true, if_true, if_false, ite_true, ite_false, lf_int, lf_lenT, lf_lenO, lf_truB, fM1, sSetIx2, sPar, sPar3, kb_NoneType_int, kb_NoneType_str, kb_NoneType_bool, kb_NoneType_tuple, kb_NoneType_list, kb_NoneType_dict, kb_bool_int, kb_bool_str, kb_bool_bool, kb_bool_tuple, kb_bool_list, kb_bool_dict, kb_int_int, kb_int_str, kb_int_bool, kb_int_tuple, kb_int_list, kb_int_dict, kb_str_int, kb_str_str, kb_str_bool, kb_str_tuple, kb_str_list, kb_str_dict, kb_tuple_int, kb_tuple_str, kb_tuple_bool, kb_tuple_tuple, kb_tuple_list, kb_tuple_dict, kb_list_int, kb_list_str, kb_list_bool, kb_list_tuple, kb_list_list, kb_list_dict, kb_dict_int, kb_dict_str, kb_dict_bool, kb_dict_tuple, kb_dict_list, kb_dict_dict, ix2_row, a4_0, a4_1, a4_2, a4_3, mod_ h0, div_ h0 h1, decide_eq_false he, decide_eq_false hl, n4_1, n4_2, n4_3, ix2O hz', pow18, decide_eq_false hb,
          mul_ (show (-18446744073709551616 : Int) < 48271 ∧ (48271 : Int) < 18446744073709551616 by decide), mod_ (show (0 : Int) < 2147483647 by decide), div_ (show (0 : Int) < 7 by decide) (by decide)]

theorem atI_mem {α : Type} {xs : List α} {v : Int} (h0 : 0 ≤ v) (h1 : v < xs.length) : ∃ x ∈ xs, atI xs v = some x := by
  obtain ⟨j, rfl⟩ := Int.eq_ofNat_of_zero_le h0
  have hj : j < xs.length := by omega
  exact ⟨xs[j], List.getElem_mem hj, atI_nat (List.getElem?_eq_getElem hj)⟩
theorem len_ref {n : Nat} {xs : List D} (h : m[n]? = some (.lst xs)) : gLen [.ref n] m = .ok (.int xs.length) m := lf_lenR h
/-- a pick out of a list -/
theorem pick {ns : List Int} (h : IsRow ns o) {n : Nat} {ds : List D} (hm : r[n]? = some (.lst ds)) (h0 : 0 < ds.length) (h1 : ds.length ≤ 100000) :
    ∃ d o', F_law_pick [.ref 0, .ref (n + 1)] (o :: r) = .ok d (o' :: r) ∧ IsRow ns o' ∧ d ∈ ds := by
  obtain ⟨v, o', e, ho, h2, h3⟩ := taken (r := r) h (ds.length : Int) (by omega) (by omega)
  obtain ⟨x, hx, ex⟩ := atI_mem h2 h3
  refine ⟨x, o', ?_, ho, hx⟩
  have hm' : (o :: r)[n + 1]? = some (.lst ds) := by rw [List.getElem?_cons_succ]; exact hm
  have hm2 : (o' :: r)[n + 1]? = some (.lst ds) := by rw [List.getElem?_cons_succ]; exact hm
  unfold F_law_pick B_law_pick
  simp only [fnD, startE, List.map_cons, List.map_nil, List.length_cons, List.length_nil, List.replicate, List.cons_append, List.nil_append, Nat.reduceAdd, Nat.reduceSub, Nat.zero_add, sSeq, sIf, sSet, sRet, sRetN, sPass, sExpr, sRaise, sBrk, sCnt, bd_ok, bd_ex, bd_bad, rs_ok, rs_ex, rs_bad, nx_ok, fVar, fC, f2, fCall, aCons, aNil, vAnd, vOr, vNot, fAnd, fOr, fNot, fTru, tr_non, tr_bl, tr_int, tr_tup, tr_rol, fBl, bl_b, fIf, fIsi, gIsi, isiB, ty_non, ty_bl, ty_int, ty_str, ty_tup, ty_rol, fChain, lf_gtI, lf_ltI, lf_leI, lf_geI, addI, subI, List.getElem?_cons_zero, List.getElem?_cons_succ, List.set_cons_zero, List.set_cons_succ, fTup, fLst, tup0, lst0, tup1, lst1, tup2, lst2, tup3, lst3, tup4, lst4, tup5, lst5, tup6, lst6, tup7, lst7, tup8, lst8, tup9, lst9, tup10, lst10, tup11, lst11, tup12, lst12, fNeg, oSome, oNone, Bool.not_true, Bool.not_false, Bool.false_eq_true, if_true, if_false, ite_true, ite_false, lf_int, lf_lenT, lf_lenO, lf_truB, fM1, sSetIx2, sPar, sPar3, kb_NoneType_int, kb_NoneType_str, kb_NoneType_bool, kb_NoneType_tuple, kb_NoneType_list, kb_NoneType_dict, kb_bool_int, kb_bool_str, kb_bool_bool, kb_bool_tuple, kb_bool_list, kb_bool_dict, kb_int_int, kb_int_str, kb_int_bool, kb_int_tuple, kb_int_list, kb_int_dict, kb_str_int, kb_str_str, kb_str_bool, kb_str_tuple, kb_str_list, kb_str_dict, kb_tuple_int, kb_tuple_str, kb_tuple_bool, kb_tuple_tuple, kb_tuple_list, kb_tuple_dict, kb_list_int, kb_list_str, kb_list_bool, kb_list_tuple, kb_list_list, kb_list_dict, kb_dict_int, kb_dict_str, kb_dict_bool, kb_dict_tuple, kb_dict_list, kb_dict_dict, len_ref hm', e, ix2L hm2 ex]
/-- a pick out of a list just laid -/
theorem pickN {ns : List Int} (h : IsRow ns o) {ds : List D} (h0 : 0 < ds.length) (h1 : ds.length ≤ 100000) :
    ∃ d o', F_law_pick [.ref 0, .ref (o :: r).length] (o :: r ++ [.lst ds]) = .ok d (o' :: r ++ [.lst ds]) ∧ IsRow ns o' ∧ d ∈ ds := by
  have := pick (r := r ++ [.lst ds]) (n := r.length) h (ds := ds) (by simp) h0 h1
  exact this
end
/-! ### loops -/
theorem loop_fold {σ : Type} (env : σ → Mn.Env) (mem : σ → Mem) (step : σ → D → σ) {still : Mem → Bool} {t : D → Mn.Env → Option Mn.Env} {body : Mn.Env → Mem → Out} (hs : ∀ s, still (mem s) = true) : ∀ (ds : List D) (s : σ),
    (∀ s, ∀ d ∈ ds, ∃ ρ1, t d (env s) = some ρ1 ∧ body ρ1 (mem s) = .nx (env (step s d)) (mem (step s d))) → loopD still t body ds (env s) (mem s) = .nx (env (ds.foldl step s)) (mem (ds.foldl step s))
  | [], s, h => by simp only [loopD, hs, if_true, List.foldl_nil]
  | d :: ds, s, h => by
    obtain ⟨ρ1, h1, h2⟩ := h s d List.mem_cons_self
    simp only [loopD, hs, if_true, h1, h2, List.foldl_cons]
    exact loop_fold env mem step hs ds (step s d) fun s d hd => h s d (List.mem_cons_of_mem _ hd)
/-! ### comprehensions -/
theorem comp_go {still : Mem → Bool} {t : D → Mn.Env → Option Mn.Env} {tt : Mn.Env → Mem → Res Bool} {te : Mn.Env → Mem → Res D} {ρ : Mn.Env} {m : Mem} (p : D → Bool) (f : D → D) (hs : ∀ acc, still (m ++ [.lst acc]) = true) : ∀ (ds : List D) (acc : List D),
    acc.length + ds.length ≤ 16777216 →
    (∀ acc, ∀ d ∈ ds, ∃ ρ1, t d ρ = some ρ1 ∧ tt ρ1 (m ++ [.lst acc]) = .ok (p d) (m ++ [.lst acc]) ∧ (p d = true → te ρ1 (m ++ [.lst acc]) = .ok (f d) (m ++ [.lst acc]))) →
    compD m.length still t tt te ρ ds (m ++ [.lst acc]) = .ok (.ref m.length) (m ++ [.lst (acc ++ (ds.filter p).map f)])
  | [], acc, hl, h => by simp only [compD, hs, if_true, List.filter_nil, List.map_nil, List.append_nil]
  | d :: ds, acc, hl, h => by
    obtain ⟨ρ1, h1, h2, h3⟩ := h acc d List.mem_cons_self
    have ih := fun acc hl => comp_go p f hs ds acc hl fun acc d hd => h acc d (List.mem_cons_of_mem _ hd)
    rw [List.length_cons] at hl
    simp only [compD, hs, if_true, h1, h2, noex, Res.bind]
    cases hp : p d with
    | true =>
      simp only [h3 hp, Res.bind, pushD]
      rw [List.getElem?_concat_length]
      simp only
      rw [if_pos (by omega), List.set_append_right _ _ (Nat.le_refl _), Nat.sub_self, List.set_cons_zero, ih _ (by rw [List.length_append, List.length_singleton]; omega)]
      rw [List.filter_cons_of_pos hp, List.map_cons, List.append_assoc]
      rfl
    | false =>
      simp only
      rw [ih _ (by omega), List.filter_cons_of_neg (by rw [hp]; exact Bool.false_ne_true)]
/-- all items, none left out -/
theorem comp_all {still : Mem → Bool} {t : D → Mn.Env → Option Mn.Env} {te : Mn.Env → Mem → Res D} {ρ : Mn.Env} {m : Mem} (f : D → D) (hs : ∀ acc, still (m ++ [.lst acc]) = true) (ds : List D) (hl : ds.length ≤ 16777216)
    (h : ∀ acc, ∀ d ∈ ds, ∃ ρ1, t d ρ = some ρ1 ∧ te ρ1 (m ++ [.lst acc]) = .ok (f d) (m ++ [.lst acc])) :
    compD m.length still t ftYes te ρ ds (m ++ [.lst []]) = .ok (.ref m.length) (m ++ [.lst (ds.map f)]) := by
  have := comp_go (m := m) (tt := ftYes) (ρ := ρ) (fun _ => true) f hs ds [] (by simpa using hl) fun acc d hd => by
    obtain ⟨ρ1, h1, h2⟩ := h acc d hd
    exact ⟨ρ1, h1, rfl, fun _ => h2⟩
  rw [this, List.filter_eq_self.mpr (fun _ _ => rfl)]
  rfl
/-- items that are drawn -/
theorem comp_draw {ns : List Int} {t : D → Mn.Env → Option Mn.Env} {te : Mn.Env → Mem → Res D} {ρ : Mn.Env} {V : D → Prop} {r : Mem} : ∀ (ds : List D) (o : Mn.Obj) (acc : List D) (g : Mem), IsRow ns o → acc.length + ds.length ≤ 16777216 → (∀ x ∈ acc, V x) →
    (∀ d ∈ ds, ∃ ρ1, t d ρ = some ρ1 ∧ ∀ (o : Mn.Obj) (r' : Mem), IsRow ns o → (∃ x, r' = r ++ x) → ∃ x o' g', te ρ1 (o :: r') = .ok x (o' :: (r' ++ g')) ∧ IsRow ns o' ∧ V x) →
    ∃ xs o' g', compD (r.length + 1) (fun _ => true) t ftYes te ρ ds (o :: (r ++ .lst acc :: g)) = .ok (.ref (r.length + 1)) (o' :: (r ++ .lst xs :: g')) ∧ IsRow ns o' ∧ xs.length = acc.length + ds.length ∧ ∀ x ∈ xs, V x
  | [], o, acc, g, ho, hl, ha, h => ⟨acc, o, g, by simp only [compD, if_true], ho, by simp, ha⟩
  | d :: ds, o, acc, g, ho, hl, ha, h => by
    rw [List.length_cons] at hl
    obtain ⟨ρ1, h1, h2⟩ := h d List.mem_cons_self
    obtain ⟨x, o', g', e, ho', hx⟩ := h2 o (r ++ .lst acc :: g) ho ⟨_, rfl⟩
    obtain ⟨xs, o2, g2, e2, ho2, hl2, hv⟩ := comp_draw ds o' (acc ++ [x]) (g ++ g') ho' (by rw [List.length_append, List.length_singleton]; omega)
      (fun y hy => by
        rcases List.mem_append.mp hy with hy | hy
        · exact ha y hy
        · rw [List.mem_singleton.mp hy]; exact hx) fun d hd => h d (List.mem_cons_of_mem _ hd)
    refine ⟨xs, o2, g2, ?_, ho2, by rw [hl2, List.length_append, List.length_singleton, List.length_cons]; omega, hv⟩
    simp only [compD, if_true, h1, ftYes, noex, Res.bind, e, pushD, List.getElem?_cons_succ]
    have z : (r ++ Mn.Obj.lst acc :: g ++ g')[r.length]? = some (.lst acc) := by simp
    rw [z]
    simp only
    rw [if_pos (by omega), List.set_cons_succ]
    have z2 : (r ++ Mn.Obj.lst acc :: g ++ g').set r.length (.lst (acc ++ [x])) = r ++ Mn.Obj.lst (acc ++ [x]) :: (g ++ g') := by simp
    rw [z2]
    exact e2
theorem rng_ok {k : Int} (h0 : -100000 ≤ k) (h : k ≤ 100000) : srcR [.int k] = some (rangeD 0 k) := by
  simp only [srcR]
  rw [if_pos (by omega)]
theorem rng_len {k : Int} : (rangeD 0 k).length = k.toNat := by unfold rangeD; simp
theorem rng_int {lo hi : Int} {d : D} (h : d ∈ rangeD lo hi) : ∃ j : Int, d = .int j ∧ lo ≤ j ∧ j < hi := by
  unfold rangeD at h
  obtain ⟨i, hi', rfl⟩ := List.mem_map.mp h
  exact ⟨_, rfl, by omega, by have := List.mem_range.mp hi'; omega⟩
end Pm
end
section
set_option Elab.async false
set_option linter.all false
set_option maxRecDepth 100000
set_option maxHeartbeats 4000000
open PySem L2 Mn Pk
namespace Pm
section
variable {m : Mem} {n : Nat} {d x : D} {o : Mn.Obj} {r : Mem}
/-! ### numbers -/
theorem is_number {n a b : Int} : F_is_number [.int n, .int a, .int b] m = .ok (.bl (decide (a ≤ n ∧ n ≤ b))) m := by
  unfold F_is_number B_is_number
  simp only [fnD, startE, List.map_cons, List.map_nil, List.length_cons, List.length_nil, List.replicate, List.cons_append, List.nil_append, Nat.reduceAdd, Nat.reduceSub, Nat.zero_add, sSeq, sIf, sSet, sRet, sRetN, sPass, sExpr, sRaise, sBrk, sCnt, bd_ok, bd_ex, bd_bad, rs_ok, rs_ex, rs_bad, nx_ok, fVar, fC, f2, fCall, aCons, aNil, vAnd, vOr, vNot, fAnd, fOr, fNot, fTru, tr_non, tr_bl, tr_int, tr_tup, tr_rol, fBl, bl_b, fIf, fIsi, gIsi, isiB, ty_non, ty_bl, ty_int, ty_str, ty_tup, ty_rol, fChain, lf_gtI, lf_ltI, lf_leI, lf_geI, addI, subI, List.getElem?_cons_zero, List.getElem?_cons_succ, List.set_cons_zero, List.set_cons_succ, fTup, fLst, tup0, lst0, tup1, lst1, tup2, lst2, tup3, lst3, tup4, lst4, tup5, lst5, tup6, lst6, tup7, lst7, tup8, lst8, tup9, lst9, tup10, lst10, tup11, lst11, tup12, lst12, fNeg, oSome, oNone, Bool.not_true, Bool.not_false, Bool.false_eq_true, if_true, if_false, ite_true, ite_false, lf_int, lf_lenT, lf_lenO, lf_truB, fM1, sSetIx2, sPar, sPar3, kb_NoneType_int, kb_NoneType_str, kb_NoneType_bool, kb_NoneType_tuple, kb_NoneType_list, kb_NoneType_dict, kb_bool_int, kb_bool_str, kb_bool_bool, kb_bool_tuple, kb_bool_list, kb_bool_dict, kb_int_int, kb_int_str, kb_int_bool, kb_int_tuple, kb_int_list, kb_int_dict, kb_str_int, kb_str_str, kb_str_bool, kb_str_tuple, kb_str_list, kb_str_dict, kb_tuple_int, kb_tuple_str, kb_tuple_bool, kb_tuple_tuple, kb_tuple_list, kb_tuple_dict, kb_list_int, kb_list_str, kb_list_bool, kb_list_tuple, kb_list_list, kb_list_dict, kb_dict_int, kb_dict_str, kb_dict_bool, kb_dict_tuple, kb_dict_list, kb_dict_dict]
  by_cases h1 : a ≤ n
  · simp only [h1, decide_true, true_and, fnD, startE, List.map_cons, List.map_nil, List.length_cons, List.length_nil, List.replicate, List.cons_append, List.nil_append, Nat.reduceAdd, Nat.reduceSub, Nat.zero_add, sSeq, sIf, sSet, sRet, sRetN, sPass, sExpr, sRaise, sBrk, sCnt, bd_ok, bd_ex, bd_bad, rs_ok, rs_ex, rs_bad, nx_ok, fVar, fC, f2, fCall, aCons, aNil, vAnd, vOr, vNot, fAnd, fOr, fNot, fTru, tr_non, tr_bl, tr_int, tr_tup, tr_rol, fBl, bl_b, fIf, fIsi, gIsi, isiB, ty_non, ty_bl, ty_int, ty_str, ty_tup, ty_rol, fChain, lf_gtI, lf_ltI, lf_leI, lf_geI, addI, subI, List.getElem?_cons_zero, List.getElem?_cons_succ, List.set_cons_zero, List.set_cons_succ, fTup, fLst, tup0, lst0, tup1, lst1, tup2, lst2, tup3, lst3, tup4, lst4, tup5, lst5, tup6, lst6, tup7, lst7, tup8, lst8, tup9, lst9, tup10, lst10, tup11, lst11, tup12, lst12, fNeg, oSome, oNone, Bool.not_true, Bool.not_false, Bool.false_eq_true, if_true, if_false, ite_true, ite_false, lf_int, lf_lenT, lf_lenO, lf_truB, fM1, sSetIx2, sPar, sPar3, kb_NoneType_int, kb_NoneType_str, kb_NoneType_bool, kb_NoneType_tuple, kb_NoneType_list, kb_NoneType_dict, kb_bool_int, kb_bool_str, kb_bool_bool, kb_bool_tuple, kb_bool_list, kb_bool_dict, kb_int_int, kb_int_str, kb_int_bool, kb_int_tuple, kb_int_list, kb_int_dict, kb_str_int, kb_str_str, kb_str_bool, kb_str_tuple, kb_str_list, kb_str_dict, kb_tuple_int, kb_tuple_str, kb_tuple_bool, kb_tuple_tuple, kb_tuple_list, kb_tuple_dict, kb_list_int, kb_list_str, kb_list_bool, kb_list_tuple, kb_list_list, kb_list_dict, kb_dict_int, kb_dict_str, kb_dict_bool, kb_dict_tuple, kb_dict_list, kb_dict_dict]
  · simp only [h1, decide_false, false_and, fnD, startE, List.map_cons, List.map_nil, List.length_cons, List.length_nil, List.replicate, List.cons_append, List.nil_append, Nat.reduceAdd, Nat.reduceSub, Nat.zero_add, sSeq, sIf, sSet, sRet, sRetN, sPass, sExpr, sRaise, sBrk, sCnt, bd_ok, bd_ex, bd_bad, rs_ok, rs_ex, rs_bad, nx_ok, fVar, fC, f2, fCall, aCons, aNil, vAnd, vOr, vNot, fAnd, fOr, fNot, fTru, tr_non, tr_bl, tr_int, tr_tup, tr_rol, fBl, bl_b, fIf, fIsi, gIsi, isiB, ty_non, ty_bl, ty_int, ty_str, ty_tup, ty_rol, fChain, lf_gtI, lf_ltI, lf_leI, lf_geI, addI, subI, List.getElem?_cons_zero, List.getElem?_cons_succ, List.set_cons_zero, List.set_cons_succ, fTup, fLst, tup0, lst0, tup1, lst1, tup2, lst2, tup3, lst3, tup4, lst4, tup5, lst5, tup6, lst6, tup7, lst7, tup8, lst8, tup9, lst9, tup10, lst10, tup11, lst11, tup12, lst12, fNeg, oSome, oNone, Bool.not_true, Bool.not_false, Bool.false_eq_true, if_true, if_false, ite_true, ite_false, lf_int, lf_lenT, lf_lenO, lf_truB, fM1, sSetIx2, sPar, sPar3, kb_NoneType_int, kb_NoneType_str, kb_NoneType_bool, kb_NoneType_tuple, kb_NoneType_list, kb_NoneType_dict, kb_bool_int, kb_bool_str, kb_bool_bool, kb_bool_tuple, kb_bool_list, kb_bool_dict, kb_int_int, kb_int_str, kb_int_bool, kb_int_tuple, kb_int_list, kb_int_dict, kb_str_int, kb_str_str, kb_str_bool, kb_str_tuple, kb_str_list, kb_str_dict, kb_tuple_int, kb_tuple_str, kb_tuple_bool, kb_tuple_tuple, kb_tuple_list, kb_tuple_dict, kb_list_int, kb_list_str, kb_list_bool, kb_list_tuple, kb_list_list, kb_list_dict, kb_dict_int, kb_dict_str, kb_dict_bool, kb_dict_tuple, kb_dict_list, kb_dict_dict]
theorem is_number_no {a b : Int} (h : gIsi ["int"] d m = .ok (.bl false) m) : F_is_number [d, .int a, .int b] m = .ok (.bl false) m := by
  unfold F_is_number B_is_number fIsi
  simp only [fnD, startE, List.map_cons, List.map_nil, List.length_cons, List.length_nil, List.replicate, Nat.reduceAdd, Nat.reduceSub, List.append_nil, sRet, vAnd, fVar, List.getElem?_cons_zero, Res.bind, h, truD, resS]
theorem is_number_bl {k : Bool} {a b : Int} : F_is_number [.bl k, .int a, .int b] m = .ok (.bl false) m := by
  unfold F_is_number B_is_number
  simp only [fnD, startE, List.map_cons, List.map_nil, List.length_cons, List.length_nil, List.replicate, List.cons_append, List.nil_append, Nat.reduceAdd, Nat.reduceSub, Nat.zero_add, sSeq, sIf, sSet, sRet, sRetN, sPass, sExpr, sRaise, sBrk, sCnt, bd_ok, bd_ex, bd_bad, rs_ok, rs_ex, rs_bad, nx_ok, fVar, fC, f2, fCall, aCons, aNil, vAnd, vOr, vNot, fAnd, fOr, fNot, fTru, tr_non, tr_bl, tr_int, tr_tup, tr_rol, fBl, bl_b, fIf, fIsi, gIsi, isiB, ty_non, ty_bl, ty_int, ty_str, ty_tup, ty_rol, fChain, lf_gtI, lf_ltI, lf_leI, lf_geI, addI, subI, List.getElem?_cons_zero, List.getElem?_cons_succ, List.set_cons_zero, List.set_cons_succ, fTup, fLst, tup0, lst0, tup1, lst1, tup2, lst2, tup3, lst3, tup4, lst4, tup5, lst5, tup6, lst6, tup7, lst7, tup8, lst8, tup9, lst9, tup10, lst10, tup11, lst11, tup12, lst12, fNeg, oSome, oNone, Bool.not_true, Bool.not_false, Bool.false_eq_true, if_true, if_false, ite_true, ite_false, lf_int, lf_lenT, lf_lenO, lf_truB, fM1, sSetIx2, sPar, sPar3, kb_NoneType_int, kb_NoneType_str, kb_NoneType_bool, kb_NoneType_tuple, kb_NoneType_list, kb_NoneType_dict, kb_bool_int, kb_bool_str, kb_bool_bool, kb_bool_tuple, kb_bool_list, kb_bool_dict, kb_int_int, kb_int_str, kb_int_bool, kb_int_tuple, kb_int_list, kb_int_dict, kb_str_int, kb_str_str, kb_str_bool, kb_str_tuple, kb_str_list, kb_str_dict, kb_tuple_int, kb_tuple_str, kb_tuple_bool, kb_tuple_tuple, kb_tuple_list, kb_tuple_dict, kb_list_int, kb_list_str, kb_list_bool, kb_list_tuple, kb_list_list, kb_list_dict, kb_dict_int, kb_dict_str, kb_dict_bool, kb_dict_tuple, kb_dict_list, kb_dict_dict]
/-! ### bytes -/
def ByteL (bs : List Int) : Prop := ∀ b ∈ bs, 0 ≤ b ∧ b ≤ 255
abbrev byD (bs : List Int) : D := .tup (bs.map D.int)
theorem seqT {f : Mn.Env → Mem → Res D} {ρ : Mn.Env} {ds : List D} {m1 : Mem} (h : f ρ m = .ok (.tup ds) m1) : fSeq2 f ρ m = .ok (ds, fun _ => true) m1 := by
  unfold fSeq2
  rw [h]
  rfl
theorem for_run {f : Mn.Env → Mem → Res Src} {t : D → Mn.Env → Option Mn.Env} {body : Mn.Env → Mem → Out} {ρ : Mn.Env} {s : Src} {m1 : Mem} {out : Out} (h : f ρ m = .ok s m1) (h2 : loopD s.2 t body s.1 ρ m1 = out) : sFor f t body ρ m = out := by
  unfold sFor
  rw [h]
  exact h2
theorem is_bytes {bs : List Int} (h : ByteL bs) {k : Int} (hk : (bs.length : Int) ≤ k) : F_is_bytes [byD bs, .int k] m = .ok (.bl true) m := by
  have lp : sFor (fSeq2 (fVar 0)) (gN 2) (sIf (fOr (fNot (fTru (fIsi ["int"] (fVar 2)))) (fOr (fTru (fIsi ["bool"] (fVar 2))) (fNot (fBl (fChain gLe gLe (fC (.int 0)) (fVar 2) (fC (.int 255))))))) (sRet (fC (.bl false))) sPass)
      [some (byD bs), some (.int k), none] m = .nx [some (byD bs), some (.int k), (bs.map D.int).foldl (fun _ d => some d) none] m := by
    refine for_run (seqT (m1 := m) rfl) ?_
    refine loop_fold (fun s : Option D => [some (byD bs), some (.int k), s]) (fun _ => m) (fun _ d => some d) (fun _ => rfl) (bs.map D.int) none fun s d hd => ?_
    obtain ⟨b, hb, rfl⟩ := List.mem_map.mp hd
    obtain ⟨h0, h1⟩ := h b hb
    refine ⟨_, rfl, ?_⟩
    simp only [fnD, startE, List.map_cons, List.map_nil, List.length_cons, List.length_nil, List.replicate, List.cons_append, List.nil_append, Nat.reduceAdd, Nat.reduceSub, Nat.zero_add, sSeq, sIf, sSet, sRet, sRetN, sPass, sExpr, sRaise, sBrk, sCnt, bd_ok, bd_ex, bd_bad, rs_ok, rs_ex, rs_bad, nx_ok, fVar, fC, f2, fCall, aCons, aNil, vAnd, vOr, vNot, fAnd, fOr, fNot, fTru, tr_non, tr_bl, tr_int, tr_tup, tr_rol, fBl, bl_b, fIf, fIsi, gIsi, isiB, ty_non, ty_bl, ty_int, ty_str, ty_tup, ty_rol, fChain, lf_gtI, lf_ltI, lf_leI, lf_geI, addI, subI, List.getElem?_cons_zero, List.getElem?_cons_succ, List.set_cons_zero, List.set_cons_succ, fTup, fLst, tup0, lst0, tup1, lst1, tup2, lst2, tup3, lst3, tup4, lst4, tup5, lst5, tup6, lst6, tup7, lst7, tup8, lst8, tup9, lst9, tup10, lst10, tup11, lst11, tup12, lst12, fNeg, oSome, oNone, Bool.not_true, Bool.not_false, Bool.false_eq_true, if_true, if_false, ite_true, ite_false, lf_int, lf_lenT, lf_lenO, lf_truB, fM1, sSetIx2, sPar, sPar3, kb_NoneType_int, kb_NoneType_str, kb_NoneType_bool, kb_NoneType_tuple, kb_NoneType_list, kb_NoneType_dict, kb_bool_int, kb_bool_str, kb_bool_bool, kb_bool_tuple, kb_bool_list, kb_bool_dict, kb_int_int, kb_int_str, kb_int_bool, kb_int_tuple, kb_int_list, kb_int_dict, kb_str_int, kb_str_str, kb_str_bool, kb_str_tuple, kb_str_list, kb_str_dict, kb_tuple_int, kb_tuple_str, kb_tuple_bool, kb_tuple_tuple, kb_tuple_list, kb_tuple_dict, kb_list_int, kb_list_str, kb_list_bool, kb_list_tuple, kb_list_list, kb_list_dict, kb_dict_int, kb_dict_str, kb_dict_bool, kb_dict_tuple, kb_dict_list, kb_dict_dict, h0, h1, decide_true]
  unfold F_is_bytes B_is_bytes
  simp only [fnD, startE, List.map_cons, List.map_nil, List.length_cons, List.length_nil, List.replicate, List.cons_append, List.nil_append, Nat.reduceAdd, Nat.reduceSub, Nat.zero_add, sSeq, sIf, sSet, sRet, sRetN, sPass, sExpr, sRaise, sBrk, sCnt, bd_ok, bd_ex, bd_bad, rs_ok, rs_ex, rs_bad, nx_ok, fVar, fC, f2, fCall, aCons, aNil, vAnd, vOr, vNot, fAnd, fOr, fNot, fTru, tr_non, tr_bl, tr_int, tr_tup, tr_rol, fBl, bl_b, fIf, fIsi, gIsi, isiB, ty_non, ty_bl, ty_int, ty_str, ty_tup, ty_rol, fChain, lf_gtI, lf_ltI, lf_leI, lf_geI, addI, subI, List.getElem?_cons_zero, List.getElem?_cons_succ, List.set_cons_zero, List.set_cons_succ, fTup, fLst, tup0, lst0, tup1, lst1, tup2, lst2, tup3, lst3, tup4, lst4, tup5, lst5, tup6, lst6, tup7, lst7, tup8, lst8, tup9, lst9, tup10, lst10, tup11, lst11, tup12, lst12, fNeg, oSome, oNone, Bool.not_true, Bool.not_false, Bool.false_eq_true, if_true, if_false, ite_true, ite_false, lf_int, lf_lenT, lf_lenO, lf_truB, fM1, sSetIx2, sPar, sPar3, kb_NoneType_int, kb_NoneType_str, kb_NoneType_bool, kb_NoneType_tuple, kb_NoneType_list, kb_NoneType_dict, kb_bool_int, kb_bool_str, kb_bool_bool, kb_bool_tuple, kb_bool_list, kb_bool_dict, kb_int_int, kb_int_str, kb_int_bool, kb_int_tuple, kb_int_list, kb_int_dict, kb_str_int, kb_str_str, kb_str_bool, kb_str_tuple, kb_str_list, kb_str_dict, kb_tuple_int, kb_tuple_str, kb_tuple_bool, kb_tuple_tuple, kb_tuple_list, kb_tuple_dict, kb_list_int, kb_list_str, kb_list_bool, kb_list_tuple, kb_list_list, kb_list_dict, kb_dict_int, kb_dict_str, kb_dict_bool, kb_dict_tuple, kb_dict_list, kb_dict_dict]
  rw [decide_eq_false (show ¬ k < ((bs.map D.int).length : Int) by rw [List.length_map]; omega)]
  simp only [byD] at lp
  simp only [fnD, startE, List.map_cons, List.map_nil, List.length_cons, List.length_nil, List.replicate, List.cons_append, List.nil_append, Nat.reduceAdd, Nat.reduceSub, Nat.zero_add, sSeq, sIf, sSet, sRet, sRetN, sPass, sExpr, sRaise, sBrk, sCnt, bd_ok, bd_ex, bd_bad, rs_ok, rs_ex, rs_bad, nx_ok, fVar, fC, f2, fCall, aCons, aNil, vAnd, vOr, vNot, fAnd, fOr, fNot, fTru, tr_non, tr_bl, tr_int, tr_tup, tr_rol, fBl, bl_b, fIf, fIsi, gIsi, isiB, ty_non, ty_bl, ty_int, ty_str, ty_tup, ty_rol, fChain, lf_gtI, lf_ltI, lf_leI, lf_geI, addI, subI, List.getElem?_cons_zero, List.getElem?_cons_succ, List.set_cons_zero, List.set_cons_succ, fTup, fLst, tup0, lst0, tup1, lst1, tup2, lst2, tup3, lst3, tup4, lst4, tup5, lst5, tup6, lst6, tup7, lst7, tup8, lst8, tup9, lst9, tup10, lst10, tup11, lst11, tup12, lst12, fNeg, oSome, oNone, Bool.not_true, Bool.not_false, Bool.false_eq_true, if_true, if_false, ite_true, ite_false, lf_int, lf_lenT, lf_lenO, lf_truB, fM1, sSetIx2, sPar, sPar3, kb_NoneType_int, kb_NoneType_str, kb_NoneType_bool, kb_NoneType_tuple, kb_NoneType_list, kb_NoneType_dict, kb_bool_int, kb_bool_str, kb_bool_bool, kb_bool_tuple, kb_bool_list, kb_bool_dict, kb_int_int, kb_int_str, kb_int_bool, kb_int_tuple, kb_int_list, kb_int_dict, kb_str_int, kb_str_str, kb_str_bool, kb_str_tuple, kb_str_list, kb_str_dict, kb_tuple_int, kb_tuple_str, kb_tuple_bool, kb_tuple_tuple, kb_tuple_list, kb_tuple_dict, kb_list_int, kb_list_str, kb_list_bool, kb_list_tuple, kb_list_list, kb_list_dict, kb_dict_int, kb_dict_str, kb_dict_bool, kb_dict_tuple, kb_dict_list, kb_dict_dict, lp]
theorem is_bytes_not (h : gIsi ["tuple"] d m = .ok (.bl false) m) {k : Int} : F_is_bytes [d, .int k] m = .ok (.bl false) m := by
  unfold F_is_bytes B_is_bytes fIsi
  simp only [fnD, startE, List.map_cons, List.map_nil, List.length_cons, List.length_nil, List.replicate, Nat.reduceAdd, Nat.reduceSub, List.cons_append, List.nil_append, List.append_nil, sSeq, sIf, fOr, fNot, fTru, fVar, List.getElem?_cons_zero, Res.bind, h, truD, resS, Bool.not_false, sRet, fC]
theorem is_bytes_long {ds : List D} {k : Int} (hk : k < (ds.length : Int)) : F_is_bytes [.tup ds, .int k] m = .ok (.bl false) m := by
  unfold F_is_bytes B_is_bytes
  simp only [fnD, startE, List.map_cons, List.map_nil, List.length_cons, List.length_nil, List.replicate, List.cons_append, List.nil_append, Nat.reduceAdd, Nat.reduceSub, Nat.zero_add, sSeq, sIf, sSet, sRet, sRetN, sPass, sExpr, sRaise, sBrk, sCnt, bd_ok, bd_ex, bd_bad, rs_ok, rs_ex, rs_bad, nx_ok, fVar, fC, f2, fCall, aCons, aNil, vAnd, vOr, vNot, fAnd, fOr, fNot, fTru, tr_non, tr_bl, tr_int, tr_tup, tr_rol, fBl, bl_b, fIf, fIsi, gIsi, isiB, ty_non, ty_bl, ty_int, ty_str, ty_tup, ty_rol, fChain, lf_gtI, lf_ltI, lf_leI, lf_geI, addI, subI, List.getElem?_cons_zero, List.getElem?_cons_succ, List.set_cons_zero, List.set_cons_succ, fTup, fLst, tup0, lst0, tup1, lst1, tup2, lst2, tup3, lst3, tup4, lst4, tup5, lst5, tup6, lst6, tup7, lst7, tup8, lst8, tup9, lst9, tup10, lst10, tup11, lst11, tup12, lst12, fNeg, oSome, oNone, Bool.not_true, Bool.not_false, Bool.false_eq_true, if_true, if_false, ite_true, ite_false, lf_int, lf_lenT, lf_lenO, lf_truB, fM1, sSetIx2, sPar, sPar3, kb_NoneType_int, kb_NoneType_str, kb_NoneType_bool, kb_NoneType_tuple, kb_NoneType_list, kb_NoneType_dict, kb_bool_int, kb_bool_str, kb_bool_bool, kb_bool_tuple, kb_bool_list, kb_bool_dict, kb_int_int, kb_int_str, kb_int_bool, kb_int_tuple, kb_int_list, kb_int_dict, kb_str_int, kb_str_str, kb_str_bool, kb_str_tuple, kb_str_list, kb_str_dict, kb_tuple_int, kb_tuple_str, kb_tuple_bool, kb_tuple_tuple, kb_tuple_list, kb_tuple_dict, kb_list_int, kb_list_str, kb_list_bool, kb_list_tuple, kb_list_list, kb_list_dict, kb_dict_int, kb_dict_str, kb_dict_bool, kb_dict_tuple, kb_dict_list, kb_dict_dict]
  rw [decide_eq_true hk]
theorem check_ok {k : Int} (h : F_is_bytes [d, .int k] m = .ok (.bl true) m) : F_check_bytes [d, .int k] m = .ok .non m := by
  unfold F_check_bytes B_check_bytes
  simp only [fnD, startE, List.map_cons, List.map_nil, List.length_cons, List.length_nil, List.replicate, List.cons_append, List.nil_append, Nat.reduceAdd, Nat.reduceSub, Nat.zero_add, sSeq, sIf, sSet, sRet, sRetN, sPass, sExpr, sRaise, sBrk, sCnt, bd_ok, bd_ex, bd_bad, rs_ok, rs_ex, rs_bad, nx_ok, fVar, fC, f2, fCall, aCons, aNil, vAnd, vOr, vNot, fAnd, fOr, fNot, fTru, tr_non, tr_bl, tr_int, tr_tup, tr_rol, fBl, bl_b, fIf, fIsi, gIsi, isiB, ty_non, ty_bl, ty_int, ty_str, ty_tup, ty_rol, fChain, lf_gtI, lf_ltI, lf_leI, lf_geI, addI, subI, List.getElem?_cons_zero, List.getElem?_cons_succ, List.set_cons_zero, List.set_cons_succ, fTup, fLst, tup0, lst0, tup1, lst1, tup2, lst2, tup3, lst3, tup4, lst4, tup5, lst5, tup6, lst6, tup7, lst7, tup8, lst8, tup9, lst9, tup10, lst10, tup11, lst11, tup12, lst12, fNeg, oSome, oNone, Bool.not_true, Bool.not_false, Bool.false_eq_true, if_true, if_false, ite_true, ite_false, lf_int, lf_lenT, lf_lenO, lf_truB, fM1, sSetIx2, sPar, sPar3, kb_NoneType_int, kb_NoneType_str, kb_NoneType_bool, kb_NoneType_tuple, kb_NoneType_list, kb_NoneType_dict, kb_bool_int, kb_bool_str, kb_bool_bool, kb_bool_tuple, kb_bool_list, kb_bool_dict, kb_int_int, kb_int_str, kb_int_bool, kb_int_tuple, kb_int_list, kb_int_dict, kb_str_int, kb_str_str, kb_str_bool, kb_str_tuple, kb_str_list, kb_str_dict, kb_tuple_int, kb_tuple_str, kb_tuple_bool, kb_tuple_tuple, kb_tuple_list, kb_tuple_dict, kb_list_int, kb_list_str, kb_list_bool, kb_list_tuple, kb_list_list, kb_list_dict, kb_dict_int, kb_dict_str, kb_dict_bool, kb_dict_tuple, kb_dict_list, kb_dict_dict, h]
theorem check_bad {k : Int} (h : F_is_bytes [d, .int k] m = .ok (.bl false) m) : F_check_bytes [d, .int k] m = .ex ⟨"BadBytes", []⟩ m := by
  unfold F_check_bytes B_check_bytes
  simp only [fnD, startE, List.map_cons, List.map_nil, List.length_cons, List.length_nil, List.replicate, List.cons_append, List.nil_append, Nat.reduceAdd, Nat.reduceSub, Nat.zero_add, sSeq, sIf, sSet, sRet, sRetN, sPass, sExpr, sRaise, sBrk, sCnt, bd_ok, bd_ex, bd_bad, rs_ok, rs_ex, rs_bad, nx_ok, fVar, fC, f2, fCall, aCons, aNil, vAnd, vOr, vNot, fAnd, fOr, fNot, fTru, tr_non, tr_bl, tr_int, tr_tup, tr_rol, fBl, bl_b, fIf, fIsi, gIsi, isiB, ty_non, ty_bl, ty_int, ty_str, ty_tup, ty_rol, fChain, lf_gtI, lf_ltI, lf_leI, lf_geI, addI, subI, List.getElem?_cons_zero, List.getElem?_cons_succ, List.set_cons_zero, List.set_cons_succ, fTup, fLst, tup0, lst0, tup1, lst1, tup2, lst2, tup3, lst3, tup4, lst4, tup5, lst5, tup6, lst6, tup7, lst7, tup8, lst8, tup9, lst9, tup10, lst10, tup11, lst11, tup12, lst12, fNeg, oSome, oNone, Bool.not_true, Bool.not_false, Bool.false_eq_true, if_true, if_false, ite_true, ite_false, lf_int, lf_lenT, lf_lenO, lf_truB, fM1, sSetIx2, sPar, sPar3, kb_NoneType_int, kb_NoneType_str, kb_NoneType_bool, kb_NoneType_tuple, kb_NoneType_list, kb_NoneType_dict, kb_bool_int, kb_bool_str, kb_bool_bool, kb_bool_tuple, kb_bool_list, kb_bool_dict, kb_int_int, kb_int_str, kb_int_bool, kb_int_tuple, kb_int_list, kb_int_dict, kb_str_int, kb_str_str, kb_str_bool, kb_str_tuple, kb_str_list, kb_str_dict, kb_tuple_int, kb_tuple_str, kb_tuple_bool, kb_tuple_tuple, kb_tuple_list, kb_tuple_dict, kb_list_int, kb_list_str, kb_list_bool, kb_list_tuple, kb_list_list, kb_list_dict, kb_dict_int, kb_dict_str, kb_dict_bool, kb_dict_tuple, kb_dict_list, kb_dict_dict, h]
/-! ### the bytes of a number -/
/-- so many bytes, the least first -/
def lits : Nat → Int → List Int
  | 0, _ => []
  | k + 1, n => n % 256 :: lits k (n / 256)
def octs (n : Int) (k : Nat) : List Int := (lits k n).reverse
def numOf (bs : List Int) : Int := bs.foldl (fun a b => a * 256 + b) 0
theorem lits_len : ∀ (k : Nat) (n : Int), (lits k n).length = k
  | 0, _ => rfl
  | k + 1, n => by rw [lits, List.length_cons, lits_len k]
theorem octs_len (n : Int) (k : Nat) : (octs n k).length = k := by unfold octs; rw [List.length_reverse, lits_len]
theorem lits_byte : ∀ (k : Nat) (n : Int), ByteL (lits k n)
  | 0, _ => fun b h => by cases h
  | k + 1, n => fun b h => by
    rcases List.mem_cons.mp h with h | h
    · rw [h]
      exact ⟨Int.emod_nonneg _ (by decide), by have := Int.emod_lt_of_pos n (show (0 : Int) < 256 by decide); omega⟩
    · exact lits_byte k _ b h
theorem octs_byte (n : Int) (k : Nat) : ByteL (octs n k) := fun b h => lits_byte k n b (List.mem_reverse.mp h)
theorem app_ok {f : Mn.Env → Mem → Res D} {fs : Mn.Env → Mem → Res (List D)} {ρ : Mn.Env} {xs : List D} (h1 : f ρ m = .ok (.ref n) m) (h2 : m[n]? = some (.lst xs)) (h3 : fs ρ m = .ok [d] m) (hl : xs.length < 16777216) :
    fApp f fs ρ m = .ok .non (m.set n (.lst (xs ++ [d]))) := by
  unfold fApp
  simp only [h1, Res.bind, h2, h3, if_pos hl]
theorem cons1 {f : Mn.Env → Mem → Res D} {ρ : Mn.Env} {m1 : Mem} (h : f ρ m = .ok d m1) (ds : List D) (hd : [d] = ds) : aCons f aNil ρ m = .ok ds m1 := by
  rw [← hd]
  unfold aCons aNil
  rw [h]
  rfl
theorem rng_src {fs : Mn.Env → Mem → Res (List D)} {ρ : Mn.Env} {m1 : Mem} (ds : List D) (q : fs ρ m = .ok ds m1) (l : List D) (e : srcR ds = some l) : fRng fs ρ m = .ok (l, fun _ => true) m1 := by
  unfold fRng
  rw [q]
  simp only [Res.bind, e]
theorem rng_run {f : Mn.Env → Mem → Res D} {ρ : Mn.Env} {k : Int} {m1 : Mem} (h : f ρ m = .ok (.int k) m1) (h0 : -100000 ≤ k) (hk : k ≤ 100000) : fRng (aCons f aNil) ρ m = .ok (rangeD 0 k, fun _ => true) m1 :=
  rng_src _ (cons1 h _ rfl) _ (rng_ok h0 hk)
theorem rev_run {f : Mn.Env → Mem → Res D} {ρ : Mn.Env} {xs : List D} {m1 : Mem} (h : f ρ m = .ok (.ref n) m1) (h2 : m1[n]? = some (.lst xs)) : fRev f ρ m = .ok (.ref m1.length) (m1 ++ [.lst xs.reverse]) := by
  unfold fRev
  simp only [h, Res.bind, h2]
  rfl
theorem tup_ref {xs : List D} (h : m[n]? = some (.lst xs)) : gTupOf [.ref n] m = .ok (.tup xs) m := lf_tupR h
theorem getLast {a : Mem} {x : Mn.Obj} : (a ++ [x])[a.length]? = some x := List.getElem?_concat_length
theorem setLast {a : Mem} {x y : Mn.Obj} : (a ++ [x]).set a.length y = a ++ [y] := by
  rw [List.set_append_right _ _ (Nat.le_refl _), Nat.sub_self, List.set_cons_zero]
theorem number_octets {n k : Int} (h0 : 0 ≤ k) (hk : k ≤ 1000) : ∃ g, F_number_octets [.int n, .int k] m = .ok (byD (octs n k.toNat)) (m ++ g) := by
  have lp : ∃ a x, sFor (fRng (aCons (fVar 1) aNil)) (gN 4) (sSeq (sExpr (fApp (fVar 2) (aCons (f2 gMod (fVar 3) (fC (.int 256))) aNil)))
      (sSet 3 (f2 gDiv (fVar 3) (fC (.int 256))))) [some (.int n), some (.int k), some (.ref m.length), some (.int n), none] (m ++ [.lst []]) =
      .nx [some (.int n), some (.int k), some (.ref m.length), some (.int a), x] (m ++ [.lst ((lits k.toNat n).map D.int)]) := by
    have st : ∀ (l : List D) (a : Int) (acc : List Int) (x : Option D), acc.length + l.length < 16777216 → ∃ a' x', loopD (fun _ => true) (gN 4) (sSeq (sExpr (fApp (fVar 2) (aCons (f2 gMod (fVar 3) (fC (.int 256))) aNil)))
        (sSet 3 (f2 gDiv (fVar 3) (fC (.int 256))))) l [some (.int n), some (.int k), some (.ref m.length), some (.int a), x] (m ++ [.lst (acc.map D.int)]) =
        .nx [some (.int n), some (.int k), some (.ref m.length), some (.int a'), x'] (m ++ [.lst ((acc ++ lits l.length a).map D.int)]) := by
      intro l
      induction l with
      | nil => intro a acc x hl; exact ⟨a, x, by simp only [loopD, if_true, List.length_nil, lits, List.append_nil]⟩
      | cons y l ih =>
        intro a acc x hl
        rw [List.length_cons] at hl
        obtain ⟨a', x', e⟩ := ih (a / 256) (acc ++ [a % 256]) (some y) (by rw [List.length_append, List.length_singleton]; omega)
        refine ⟨a', x', ?_⟩
        have ap : ∀ ρ : Mn.Env, ρ[2]? = some (some (.ref m.length)) → ρ[3]? = some (some (.int a)) → fApp (fVar 2) (aCons (f2 gMod (fVar 3) (fC (.int 256))) aNil) ρ (m ++ [.lst (acc.map D.int)]) = .ok .non (m ++ [.lst ((acc ++ [a % 256]).map D.int)]) := by
          intro ρ h2 h3
          rw [app_ok (d := .int (a % 256)) (n := m.length) (xs := acc.map D.int) (by simp only [fVar, h2]) getLast (by simp only [fnD, startE, List.map_cons, List.map_nil, List.length_cons, List.length_nil, List.replicate, List.cons_append, List.nil_append, Nat.reduceAdd, Nat.reduceSub, Nat.zero_add, sSeq, sIf, sSet, sRet, sRetN, sPass, sExpr, sRaise, sBrk, sCnt, bd_ok, bd_ex, bd_bad, rs_ok, rs_ex, rs_bad, nx_ok, fVar, fC, f2, fCall, aCons, aNil, vAnd, vOr, vNot, fAnd, fOr, fNot, fTru, tr_non, tr_bl, tr_int, tr_tup, tr_rol, fBl, bl_b, fIf, fIsi, gIsi, isiB, ty_non, ty_bl, ty_int, ty_str, ty_tup, ty_rol, fChain, lf_gtI, lf_ltI, lf_leI, lf_geI, addI, subI, List.getElem?_cons_zero, List.getElem?_cons_succ, List.set_cons_zero, List.set_cons_succ, fTup, fLst, tup0, lst0, tup1, lst1, tup2, lst2, tup3, lst3, tup4, lst4, tup5, lst5, tup6, lst6, tup7, lst7, tup8, lst8, tup9, lst9, tup10, lst10, tup11, lst11, tup12, lst12, fNeg, oSome, oNone, Bool.not_true, Bool.not_false, Bool.false_eq_true, if_true, if_false, ite_true, ite_false, lf_int, lf_lenT, lf_lenO, lf_truB, fM1, sSetIx2, sPar, sPar3, kb_NoneType_int, kb_NoneType_str, kb_NoneType_bool, kb_NoneType_tuple, kb_NoneType_list, kb_NoneType_dict, kb_bool_int, kb_bool_str, kb_bool_bool, kb_bool_tuple, kb_bool_list, kb_bool_dict, kb_int_int, kb_int_str, kb_int_bool, kb_int_tuple, kb_int_list, kb_int_dict, kb_str_int, kb_str_str, kb_str_bool, kb_str_tuple, kb_str_list, kb_str_dict, kb_tuple_int, kb_tuple_str, kb_tuple_bool, kb_tuple_tuple, kb_tuple_list, kb_tuple_dict, kb_list_int, kb_list_str, kb_list_bool, kb_list_tuple, kb_list_list, kb_list_dict, kb_dict_int, kb_dict_str, kb_dict_bool, kb_dict_tuple, kb_dict_list, kb_dict_dict, h3, mod_ (show (0 : Int) < 256 by decide)]) (by rw [List.length_map]; omega), setLast, List.map_append]
          rfl
        simp only [loopD, if_true, gN, fnD, startE, List.map_cons, List.map_nil, List.length_cons, List.length_nil, List.replicate, List.cons_append, List.nil_append, Nat.reduceAdd, Nat.reduceSub, Nat.zero_add, sSeq, sIf, sSet, sRet, sRetN, sPass, sExpr, sRaise, sBrk, sCnt, bd_ok, bd_ex, bd_bad, rs_ok, rs_ex, rs_bad, nx_ok, fVar, fC, f2, fCall, aCons, aNil, vAnd, vOr, vNot, fAnd, fOr, fNot, fTru, tr_non, tr_bl, tr_int, tr_tup, tr_rol, fBl, bl_b, fIf, fIsi, gIsi, isiB, ty_non, ty_bl, ty_int, ty_str, ty_tup, ty_rol, fChain, lf_gtI, lf_ltI, lf_leI, lf_geI, addI, subI, List.getElem?_cons_zero, List.getElem?_cons_succ, List.set_cons_zero, List.set_cons_succ, fTup, fLst, tup0, lst0, tup1, lst1, tup2, lst2, tup3, lst3, tup4, lst4, tup5, lst5, tup6, lst6, tup7, lst7, tup8, lst8, tup9, lst9, tup10, lst10, tup11, lst11, tup12, lst12, fNeg, oSome, oNone, Bool.not_true, Bool.not_false, Bool.false_eq_true, if_true, if_false, ite_true, ite_false, lf_int, lf_lenT, lf_lenO, lf_truB, fM1, sSetIx2, sPar, sPar3, kb_NoneType_int, kb_NoneType_str, kb_NoneType_bool, kb_NoneType_tuple, kb_NoneType_list, kb_NoneType_dict, kb_bool_int, kb_bool_str, kb_bool_bool, kb_bool_tuple, kb_bool_list, kb_bool_dict, kb_int_int, kb_int_str, kb_int_bool, kb_int_tuple, kb_int_list, kb_int_dict, kb_str_int, kb_str_str, kb_str_bool, kb_str_tuple, kb_str_list, kb_str_dict, kb_tuple_int, kb_tuple_str, kb_tuple_bool, kb_tuple_tuple, kb_tuple_list, kb_tuple_dict, kb_list_int, kb_list_str, kb_list_bool, kb_list_tuple, kb_list_list, kb_list_dict, kb_dict_int, kb_dict_str, kb_dict_bool, kb_dict_tuple, kb_dict_list, kb_dict_dict]
        rw [ap _ rfl rfl]
        simp only [fnD, startE, List.map_cons, List.map_nil, List.length_cons, List.length_nil, List.replicate, List.cons_append, List.nil_append, Nat.reduceAdd, Nat.reduceSub, Nat.zero_add, sSeq, sIf, sSet, sRet, sRetN, sPass, sExpr, sRaise, sBrk, sCnt, bd_ok, bd_ex, bd_bad, rs_ok, rs_ex, rs_bad, nx_ok, fVar, fC, f2, fCall, aCons, aNil, vAnd, vOr, vNot, fAnd, fOr, fNot, fTru, tr_non, tr_bl, tr_int, tr_tup, tr_rol, fBl, bl_b, fIf, fIsi, gIsi, isiB, ty_non, ty_bl, ty_int, ty_str, ty_tup, ty_rol, fChain, lf_gtI, lf_ltI, lf_leI, lf_geI, addI, subI, List.getElem?_cons_zero, List.getElem?_cons_succ, List.set_cons_zero, List.set_cons_succ, fTup, fLst, tup0, lst0, tup1, lst1, tup2, lst2, tup3, lst3, tup4, lst4, tup5, lst5, tup6, lst6, tup7, lst7, tup8, lst8, tup9, lst9, tup10, lst10, tup11, lst11, tup12, lst12, fNeg, oSome, oNone, Bool.not_true, Bool.not_false, Bool.false_eq_true, if_true, if_false, ite_true, ite_false, lf_int, lf_lenT, lf_lenO, lf_truB, fM1, sSetIx2, sPar, sPar3, kb_NoneType_int, kb_NoneType_str, kb_NoneType_bool, kb_NoneType_tuple, kb_NoneType_list, kb_NoneType_dict, kb_bool_int, kb_bool_str, kb_bool_bool, kb_bool_tuple, kb_bool_list, kb_bool_dict, kb_int_int, kb_int_str, kb_int_bool, kb_int_tuple, kb_int_list, kb_int_dict, kb_str_int, kb_str_str, kb_str_bool, kb_str_tuple, kb_str_list, kb_str_dict, kb_tuple_int, kb_tuple_str, kb_tuple_bool, kb_tuple_tuple, kb_tuple_list, kb_tuple_dict, kb_list_int, kb_list_str, kb_list_bool, kb_list_tuple, kb_list_list, kb_list_dict, kb_dict_int, kb_dict_str, kb_dict_bool, kb_dict_tuple, kb_dict_list, kb_dict_dict, div_ (show (0 : Int) < 256 by decide) (show (256 : Int) < 1073741824 by decide)]
        rw [e, lits, List.append_assoc]
        rfl
    obtain ⟨a', x', e⟩ := st (rangeD 0 k) n [] none (by rw [rng_len]; simp; omega)
    rw [rng_len, List.nil_append] at e
    exact ⟨a', x', for_run (rng_run (m1 := m ++ [.lst []]) rfl (by omega) (by omega)) e⟩
  obtain ⟨a, x, lp⟩ := lp
  refine ⟨[.lst ((lits k.toNat n).map D.int), .lst ((octs n k.toNat).map D.int)], ?_⟩
  unfold F_number_octets B_number_octets
  generalize sFor (fRng (aCons (fVar 1) aNil)) (gN 4) (sSeq (sExpr (fApp (fVar 2) (aCons (f2 gMod (fVar 3) (fC (.int 256))) aNil)))
      (sSet 3 (f2 gDiv (fVar 3) (fC (.int 256))))) = Y at lp ⊢
  simp only [fnD, startE, List.map_cons, List.map_nil, List.length_cons, List.length_nil, List.replicate, List.cons_append, List.nil_append, Nat.reduceAdd, Nat.reduceSub, Nat.zero_add, sSeq, sIf, sSet, sRet, sRetN, sPass, sExpr, sRaise, sBrk, sCnt, bd_ok, bd_ex, bd_bad, rs_ok, rs_ex, rs_bad, nx_ok, fVar, fC, f2, fCall, aCons, aNil, vAnd, vOr, vNot, fAnd, fOr, fNot, fTru, tr_non, tr_bl, tr_int, tr_tup, tr_rol, fBl, bl_b, fIf, fIsi, gIsi, isiB, ty_non, ty_bl, ty_int, ty_str, ty_tup, ty_rol, fChain, lf_gtI, lf_ltI, lf_leI, lf_geI, addI, subI, List.getElem?_cons_zero, List.getElem?_cons_succ, List.set_cons_zero, List.set_cons_succ, fTup, fLst, tup0, lst0, tup1, lst1, tup2, lst2, tup3, lst3, tup4, lst4, tup5, lst5, tup6, lst6, tup7, lst7, tup8, lst8, tup9, lst9, tup10, lst10, tup11, lst11, tup12, lst12, fNeg, oSome, oNone, Bool.not_true, Bool.not_false, Bool.false_eq_true, if_true, if_false, ite_true, ite_false, lf_int, lf_lenT, lf_lenO, lf_truB, fM1, sSetIx2, sPar, sPar3, kb_NoneType_int, kb_NoneType_str, kb_NoneType_bool, kb_NoneType_tuple, kb_NoneType_list, kb_NoneType_dict, kb_bool_int, kb_bool_str, kb_bool_bool, kb_bool_tuple, kb_bool_list, kb_bool_dict, kb_int_int, kb_int_str, kb_int_bool, kb_int_tuple, kb_int_list, kb_int_dict, kb_str_int, kb_str_str, kb_str_bool, kb_str_tuple, kb_str_list, kb_str_dict, kb_tuple_int, kb_tuple_str, kb_tuple_bool, kb_tuple_tuple, kb_tuple_list, kb_tuple_dict, kb_list_int, kb_list_str, kb_list_bool, kb_list_tuple, kb_list_list, kb_list_dict, kb_dict_int, kb_dict_str, kb_dict_bool, kb_dict_tuple, kb_dict_list, kb_dict_dict, lp]
  have e1 : (m ++ [Mn.Obj.lst ((lits k.toNat n).map D.int)])[m.length]? = some (.lst ((lits k.toNat n).map D.int)) := getLast
  rw [rev_run (m1 := m ++ [Mn.Obj.lst ((lits k.toNat n).map D.int)]) (by simp only [fnD, startE, List.map_cons, List.map_nil, List.length_cons, List.length_nil, List.replicate, List.cons_append, List.nil_append, Nat.reduceAdd, Nat.reduceSub, Nat.zero_add, sSeq, sIf, sSet, sRet, sRetN, sPass, sExpr, sRaise, sBrk, sCnt, bd_ok, bd_ex, bd_bad, rs_ok, rs_ex, rs_bad, nx_ok, fVar, fC, f2, fCall, aCons, aNil, vAnd, vOr, vNot, fAnd, fOr, fNot, fTru, tr_non, tr_bl, tr_int, tr_tup, tr_rol, fBl, bl_b, fIf, fIsi, gIsi, isiB, ty_non, ty_bl, ty_int, ty_str, ty_tup, ty_rol, fChain, lf_gtI, lf_ltI, lf_leI, lf_geI, addI, subI, List.getElem?_cons_zero, List.getElem?_cons_succ, List.set_cons_zero, List.set_cons_succ, fTup, fLst, tup0, lst0, tup1, lst1, tup2, lst2, tup3, lst3, tup4, lst4, tup5, lst5, tup6, lst6, tup7, lst7, tup8, lst8, tup9, lst9, tup10, lst10, tup11, lst11, tup12, lst12, fNeg, oSome, oNone, Bool.not_true, Bool.not_false, Bool.false_eq_true, if_true, if_false, ite_true, ite_false, lf_int, lf_lenT, lf_lenO, lf_truB, fM1, sSetIx2, sPar, sPar3, kb_NoneType_int, kb_NoneType_str, kb_NoneType_bool, kb_NoneType_tuple, kb_NoneType_list, kb_NoneType_dict, kb_bool_int, kb_bool_str, kb_bool_bool, kb_bool_tuple, kb_bool_list, kb_bool_dict, kb_int_int, kb_int_str, kb_int_bool, kb_int_tuple, kb_int_list, kb_int_dict, kb_str_int, kb_str_str, kb_str_bool, kb_str_tuple, kb_str_list, kb_str_dict, kb_tuple_int, kb_tuple_str, kb_tuple_bool, kb_tuple_tuple, kb_tuple_list, kb_tuple_dict, kb_list_int, kb_list_str, kb_list_bool, kb_list_tuple, kb_list_list, kb_list_dict, kb_dict_int, kb_dict_str, kb_dict_bool, kb_dict_tuple, kb_dict_list, kb_dict_dict]) e1]
  simp only [fnD, startE, List.map_cons, List.map_nil, List.length_cons, List.length_nil, List.replicate, List.cons_append, List.nil_append, Nat.reduceAdd, Nat.reduceSub, Nat.zero_add, sSeq, sIf, sSet, sRet, sRetN, sPass, sExpr, sRaise, sBrk, sCnt, bd_ok, bd_ex, bd_bad, rs_ok, rs_ex, rs_bad, nx_ok, fVar, fC, f2, fCall, aCons, aNil, vAnd, vOr, vNot, fAnd, fOr, fNot, fTru, tr_non, tr_bl, tr_int, tr_tup, tr_rol, fBl, bl_b, fIf, fIsi, gIsi, isiB, ty_non, ty_bl, ty_int, ty_str, ty_tup, ty_rol, fChain, lf_gtI, lf_ltI, lf_leI, lf_geI, addI, subI, List.getElem?_cons_zero, List.getElem?_cons_succ, List.set_cons_zero, List.set_cons_succ, fTup, fLst, tup0, lst0, tup1, lst1, tup2, lst2, tup3, lst3, tup4, lst4, tup5, lst5, tup6, lst6, tup7, lst7, tup8, lst8, tup9, lst9, tup10, lst10, tup11, lst11, tup12, lst12, fNeg, oSome, oNone, Bool.not_true, Bool.not_false, Bool.false_eq_true, if_true, if_false, ite_true, ite_false, lf_int, lf_lenT, lf_lenO, lf_truB, fM1, sSetIx2, sPar, sPar3, kb_NoneType_int, kb_NoneType_str, kb_NoneType_bool, kb_NoneType_tuple, kb_NoneType_list, kb_NoneType_dict, kb_bool_int, kb_bool_str, kb_bool_bool, kb_bool_tuple, kb_bool_list, kb_bool_dict, kb_int_int, kb_int_str, kb_int_bool, kb_int_tuple, kb_int_list, kb_int_dict, kb_str_int, kb_str_str, kb_str_bool, kb_str_tuple, kb_str_list, kb_str_dict, kb_tuple_int, kb_tuple_str, kb_tuple_bool, kb_tuple_tuple, kb_tuple_list, kb_tuple_dict, kb_list_int, kb_list_str, kb_list_bool, kb_list_tuple, kb_list_list, kb_list_dict, kb_dict_int, kb_dict_str, kb_dict_bool, kb_dict_tuple, kb_dict_list, kb_dict_dict]
  rw [tup_ref getLast]
  simp only [fnD, startE, List.map_cons, List.map_nil, List.length_cons, List.length_nil, List.replicate, List.cons_append, List.nil_append, Nat.reduceAdd, Nat.reduceSub, Nat.zero_add, sSeq, sIf, sSet, sRet, sRetN, sPass, sExpr, sRaise, sBrk, sCnt, bd_ok, bd_ex, bd_bad, rs_ok, rs_ex, rs_bad, nx_ok, fVar, fC, f2, fCall, aCons, aNil, vAnd, vOr, vNot, fAnd, fOr, fNot, fTru, tr_non, tr_bl, tr_int, tr_tup, tr_rol, fBl, bl_b, fIf, fIsi, gIsi, isiB, ty_non, ty_bl, ty_int, ty_str, ty_tup, ty_rol, fChain, lf_gtI, lf_ltI, lf_leI, lf_geI, addI, subI, List.getElem?_cons_zero, List.getElem?_cons_succ, List.set_cons_zero, List.set_cons_succ, fTup, fLst, tup0, lst0, tup1, lst1, tup2, lst2, tup3, lst3, tup4, lst4, tup5, lst5, tup6, lst6, tup7, lst7, tup8, lst8, tup9, lst9, tup10, lst10, tup11, lst11, tup12, lst12, fNeg, oSome, oNone, Bool.not_true, Bool.not_false, Bool.false_eq_true, if_true, if_false, ite_true, ite_false, lf_int, lf_lenT, lf_lenO, lf_truB, fM1, sSetIx2, sPar, sPar3, kb_NoneType_int, kb_NoneType_str, kb_NoneType_bool, kb_NoneType_tuple, kb_NoneType_list, kb_NoneType_dict, kb_bool_int, kb_bool_str, kb_bool_bool, kb_bool_tuple, kb_bool_list, kb_bool_dict, kb_int_int, kb_int_str, kb_int_bool, kb_int_tuple, kb_int_list, kb_int_dict, kb_str_int, kb_str_str, kb_str_bool, kb_str_tuple, kb_str_list, kb_str_dict, kb_tuple_int, kb_tuple_str, kb_tuple_bool, kb_tuple_tuple, kb_tuple_list, kb_tuple_dict, kb_list_int, kb_list_str, kb_list_bool, kb_list_tuple, kb_list_list, kb_list_dict, kb_dict_int, kb_dict_str, kb_dict_bool, kb_dict_tuple, kb_dict_list, kb_dict_dict, octs, List.map_reverse, List.append_assoc, List.singleton_append, byD]

/-! ### the number of bytes -/
theorem octets_number {bs : List Int} : F_octets_number [byD bs] m = .ok (.int (numOf bs)) m := by
  have lp : ∀ (l : List Int) (a : Int) (x : Option D), ∃ x', loopD (fun _ => true) (gN 2) (sSet 1 (f2 gAdd (f2 gMul2 (fVar 1) (fC (.int 256))) (fVar 2))) (l.map D.int) [some (byD bs), some (.int a), x] m =
      .nx [some (byD bs), some (.int (l.foldl (fun a b => a * 256 + b) a)), x'] m := by
    intro l
    induction l with
    | nil => intro a x; exact ⟨x, by simp only [loopD, if_true, List.map_nil, List.foldl_nil]⟩
    | cons y l ih =>
      intro a x
      obtain ⟨x', e⟩ := ih (a * 256 + y) (some (.int y))
      refine ⟨x', ?_⟩
      simp only [List.map_cons, loopD, if_true, gN, fnD, startE, List.map_cons, List.map_nil, List.length_cons, List.length_nil, List.replicate, List.cons_append, List.nil_append, Nat.reduceAdd, Nat.reduceSub, Nat.zero_add, sSeq, sIf, sSet, sRet, sRetN, sPass, sExpr, sRaise, sBrk, sCnt, bd_ok, bd_ex, bd_bad, rs_ok, rs_ex, rs_bad, nx_ok, fVar, fC, f2, fCall, aCons, aNil, vAnd, vOr, vNot, fAnd, fOr, fNot, fTru, tr_non, tr_bl, tr_int, tr_tup, tr_rol, fBl, bl_b, fIf, fIsi, gIsi, isiB, ty_non, ty_bl, ty_int, ty_str, ty_tup, ty_rol, fChain, lf_gtI, lf_ltI, lf_leI, lf_geI, addI, subI, List.getElem?_cons_zero, List.getElem?_cons_succ, List.set_cons_zero, List.set_cons_succ, fTup, fLst, tup0, lst0, tup1, lst1, tup2, lst2, tup3, lst3, tup4, lst4, tup5, lst5, tup6, lst6, tup7, lst7, tup8, lst8, tup9, lst9, tup10, lst10, tup11, lst11, tup12, lst12, fNeg, oSome, oNone, Bool.not_true, Bool.not_false, Bool.false_eq_true, if_true, if_false, ite_true, ite_false, lf_int, lf_lenT, lf_lenO, lf_truB, fM1, sSetIx2, sPar, sPar3, kb_NoneType_int, kb_NoneType_str, kb_NoneType_bool, kb_NoneType_tuple, kb_NoneType_list, kb_NoneType_dict, kb_bool_int, kb_bool_str, kb_bool_bool, kb_bool_tuple, kb_bool_list, kb_bool_dict, kb_int_int, kb_int_str, kb_int_bool, kb_int_tuple, kb_int_list, kb_int_dict, kb_str_int, kb_str_str, kb_str_bool, kb_str_tuple, kb_str_list, kb_str_dict, kb_tuple_int, kb_tuple_str, kb_tuple_bool, kb_tuple_tuple, kb_tuple_list, kb_tuple_dict, kb_list_int, kb_list_str, kb_list_bool, kb_list_tuple, kb_list_list, kb_list_dict, kb_dict_int, kb_dict_str, kb_dict_bool, kb_dict_tuple, kb_dict_list, kb_dict_dict, mul_ (show (-18446744073709551616 : Int) < 256 ∧ (256 : Int) < 18446744073709551616 by decide)]
      rw [e, List.foldl_cons]
  obtain ⟨x', e⟩ := lp bs 0 none
  have e2 := for_run (t := gN 2) (body := sSet 1 (f2 gAdd (f2 gMul2 (fVar 1) (fC (.int 256))) (fVar 2))) (seqT (ρ := [some (byD bs), some (.int 0), none]) (f := fVar 0) (m := m) (m1 := m) rfl) e
  unfold F_octets_number B_octets_number
  generalize sFor (fSeq2 (fVar 0)) (gN 2) (sSet 1 (f2 gAdd (f2 gMul2 (fVar 1) (fC (.int 256))) (fVar 2))) = Y at e2 ⊢
  simp only [fnD, startE, List.map_cons, List.map_nil, List.length_cons, List.length_nil, List.replicate, List.cons_append, List.nil_append, Nat.reduceAdd, Nat.reduceSub, Nat.zero_add, sSeq, sIf, sSet, sRet, sRetN, sPass, sExpr, sRaise, sBrk, sCnt, bd_ok, bd_ex, bd_bad, rs_ok, rs_ex, rs_bad, nx_ok, fVar, fC, f2, fCall, aCons, aNil, vAnd, vOr, vNot, fAnd, fOr, fNot, fTru, tr_non, tr_bl, tr_int, tr_tup, tr_rol, fBl, bl_b, fIf, fIsi, gIsi, isiB, ty_non, ty_bl, ty_int, ty_str, ty_tup, ty_rol, fChain, lf_gtI, lf_ltI, lf_leI, lf_geI, addI, subI, List.getElem?_cons_zero, List.getElem?_cons_succ, List.set_cons_zero, List.set_cons_succ, fTup, fLst, tup0, lst0, tup1, lst1, tup2, lst2, tup3, lst3, tup4, lst4, tup5, lst5, tup6, lst6, tup7, lst7, tup8, lst8, tup9, lst9, tup10, lst10, tup11, lst11, tup12, lst12, fNeg, oSome, oNone, Bool.not_true, Bool.not_false, Bool.false_eq_true, if_true, if_false, ite_true, ite_false, lf_int, lf_lenT, lf_lenO, lf_truB, fM1, sSetIx2, sPar, sPar3, kb_NoneType_int, kb_NoneType_str, kb_NoneType_bool, kb_NoneType_tuple, kb_NoneType_list, kb_NoneType_dict, kb_bool_int, kb_bool_str, kb_bool_bool, kb_bool_tuple, kb_bool_list, kb_bool_dict, kb_int_int, kb_int_str, kb_int_bool, kb_int_tuple, kb_int_list, kb_int_dict, kb_str_int, kb_str_str, kb_str_bool, kb_str_tuple, kb_str_list, kb_str_dict, kb_tuple_int, kb_tuple_str, kb_tuple_bool, kb_tuple_tuple, kb_tuple_list, kb_tuple_dict, kb_list_int, kb_list_str, kb_list_bool, kb_list_tuple, kb_list_list, kb_list_dict, kb_dict_int, kb_dict_str, kb_dict_bool, kb_dict_tuple, kb_dict_list, kb_dict_dict, e2, numOf]
/-- the number whose bytes these are, the least first -/
def valL : List Int → Int
  | [] => 0
  | b :: r => b + 256 * valL r
theorem lits_val : ∀ {rs : List Int}, ByteL rs → lits rs.length (valL rs) = rs
  | [], _ => rfl
  | b :: r, h => by
    obtain ⟨h0, h1⟩ := h b List.mem_cons_self
    have e1 : (b + 256 * valL r) % 256 = b := by omega
    have e2 : (b + 256 * valL r) / 256 = valL r := by omega
    rw [List.length_cons, lits, valL, e1, e2, lits_val fun x hx => h x (List.mem_cons_of_mem _ hx)]
theorem val_snoc : ∀ (l : List Int) (a : Int), l.foldl (fun a b => a * 256 + b) a = valL (l.reverse ++ [a])
  | [], a => by simp [valL]
  | b :: l, a => by
    rw [List.foldl_cons, val_snoc l, List.reverse_cons, List.append_assoc]
    have : ∀ (r : List Int), valL (r ++ [a * 256 + b]) = valL (r ++ ([b] ++ [a])) := by
      intro r
      induction r with
      | nil => simp [valL]; omega
      | cons c r ih => simp only [List.cons_append, valL, ih]
    exact this _
theorem val_zero : ∀ (r : List Int), valL (r ++ [0]) = valL r
  | [] => rfl
  | c :: r => by rw [List.cons_append, valL, valL, val_zero r]
theorem octs_num {bs : List Int} (h : ByteL bs) : octs (numOf bs) bs.length = bs := by
  have e : numOf bs = valL bs.reverse := by unfold numOf; rw [val_snoc, val_zero]
  have z := lits_val (rs := bs.reverse) fun b hb => h b (List.mem_reverse.mp hb)
  rw [List.length_reverse] at z
  unfold octs
  rw [e, z, List.reverse_reverse]
theorem valL_nn : ∀ {r : List Int}, ByteL r → 0 ≤ valL r ∧ valL r < 256 ^ r.length
  | [], _ => by simp [valL]
  | b :: r, h => by
    obtain ⟨h0, h1⟩ := h b List.mem_cons_self
    obtain ⟨h2, h3⟩ := valL_nn (r := r) fun x hx => h x (List.mem_cons_of_mem _ hx)
    rw [valL, List.length_cons, Int.pow_succ]
    constructor <;> omega
theorem numOf_nn {bs : List Int} (h : ByteL bs) : 0 ≤ numOf bs ∧ numOf bs < 256 ^ bs.length := by
  have e : numOf bs = valL bs.reverse := by unfold numOf; rw [val_snoc, val_zero]
  have z := valL_nn (r := bs.reverse) fun b hb => h b (List.mem_reverse.mp hb)
  rw [List.length_reverse] at z
  rw [e]
  exact z
/-! ### sums -/
def wsum : Nat → List Int → Int
  | _, [] => 0
  | k, b :: r => ((k : Int) + 1) * b + wsum (k + 1) r
def chk1 (bs : List Int) : Int := bs.sum % 257
def chk2 (bs : List Int) : Int := wsum 0 bs % 257
theorem ints_map : ∀ ys : List Int, intsD (ys.map D.int) = some ys
  | [] => rfl
  | y :: r => by simp only [List.map_cons, intsD, ints_map r]
theorem sum_tup {bs : List Int} : gSum2 [byD bs] m = .ok (.int bs.sum) m := by
  unfold gSum2
  simp only [byD, ints_map]
theorem sum_ref {bs : List Int} (h : m[n]? = some (.lst (bs.map D.int))) : gSum2 [.ref n] m = .ok (.int bs.sum) m := by
  unfold gSum2 gSum
  simp only [h, ints_map]
def wl : Nat → List Int → List Int
  | _, [] => []
  | k, b :: r => ((k : Int) + 1) * b :: wl (k + 1) r
theorem wl_sum : ∀ (k : Nat) (bs : List Int), (wl k bs).sum = wsum k bs
  | _, [] => rfl
  | k, b :: r => by rw [wl, wsum, List.sum_cons, wl_sum]
def wf : D → D
  | .tup [.int a, .int b] => .int ((a + 1) * b)
  | d => d
theorem wl_map : ∀ (k : Nat) (bs : List Int), (enumD k (bs.map D.int)).map wf = (wl k bs).map D.int
  | _, [] => rfl
  | k, b :: r => by simp only [List.map_cons, enumD, wl, wf, wl_map]
theorem enum_len : ∀ (ds : List D) (k : Nat), (enumD k ds).length = ds.length
  | [], k => rfl
  | d :: r, k => by simp [enumD, enum_len r]
theorem enum_mem : ∀ {bs : List Int} {k : Nat} {d : D}, d ∈ enumD k (bs.map D.int) → ∃ (i : Nat) (b : Int), d = .tup [.int (i : Nat), .int b] ∧ i < k + bs.length
  | [], k, d, h => by cases h
  | b :: r, k, d, h => by
    rw [List.map_cons, enumD] at h
    rcases List.mem_cons.mp h with h | h
    · exact ⟨k, b, h, by rw [List.length_cons]; omega⟩
    · obtain ⟨i, c, e, hi⟩ := enum_mem h
      exact ⟨i, c, e, by rw [List.length_cons]; omega⟩
theorem comp_eq {vs : List Nat} {f : Mn.Env → Mem → Res Src} {t : D → Mn.Env → Option Mn.Env} {tt : Mn.Env → Mem → Res Bool} {te : Mn.Env → Mem → Res D} {ρ : Mn.Env} {s : Src} {m1 : Mem} {out : Res D} (h : f ρ m = .ok s m1) (h2 : compD m1.length s.2 t tt te (wipeE ρ vs) s.1 (m1 ++ [.lst []]) = out) : fComp vs f t tt te ρ m = out := by
  unfold fComp
  rw [h]
  exact h2
theorem enum_src {f : Mn.Env → Mem → Res D} {ρ : Mn.Env} {ds : List D} {m1 : Mem} (h : f ρ m = .ok (.tup ds) m1) : fEnum (aCons f aNil) ρ m = .ok (enumD 0 ds, fun _ => true) m1 := by
  unfold fEnum aCons aNil
  rw [h]
  rfl
theorem sums_item {q b : Int} {x y : Option D} {acc : List D} (h0 : 0 ≤ q) (h : q ≤ 100000) : ∃ ρ1, gTupT 2 (gsCons (gN 3) (gsCons (gN 4) gsNil)) (.tup [.int q, .int b]) (wipeE [x, y, none, none, none] [3, 4]) = some ρ1 ∧
    f2 gMul2 (f2 gAdd (fVar 3) (fC (.int 1))) (fVar 4) ρ1 (m ++ [.lst acc]) = .ok (wf (.tup [.int q, .int b])) (m ++ [.lst acc]) := by
  refine ⟨_, rfl, ?_⟩
  simp only [wipeE, fnD, startE, List.map_cons, List.map_nil, List.length_cons, List.length_nil, List.replicate, List.cons_append, List.nil_append, Nat.reduceAdd, Nat.reduceSub, Nat.zero_add, sSeq, sIf, sSet, sRet, sRetN, sPass, sExpr, sRaise, sBrk, sCnt, bd_ok, bd_ex, bd_bad, rs_ok, rs_ex, rs_bad, nx_ok, fVar, fC, f2, fCall, aCons, aNil, vAnd, vOr, vNot, fAnd, fOr, fNot, fTru, tr_non, tr_bl, tr_int, tr_tup, tr_rol, fBl, bl_b, fIf, fIsi, gIsi, isiB, ty_non, ty_bl, ty_int, ty_str, ty_tup, ty_rol, fChain, lf_gtI, lf_ltI, lf_leI, lf_geI, addI, subI, List.getElem?_cons_zero, List.getElem?_cons_succ, List.set_cons_zero, List.set_cons_succ, fTup, fLst, tup0, lst0, tup1, lst1, tup2, lst2, tup3, lst3, tup4, lst4, tup5, lst5, tup6, lst6, tup7, lst7, tup8, lst8, tup9, lst9, tup10, lst10, tup11, lst11, tup12, lst12, fNeg, oSome, oNone, Bool.not_true, Bool.not_false, Bool.false_eq_true, if_true, if_false, ite_true, ite_false, lf_int, lf_lenT, lf_lenO, lf_truB, fM1, sSetIx2, sPar, sPar3, kb_NoneType_int, kb_NoneType_str, kb_NoneType_bool, kb_NoneType_tuple, kb_NoneType_list, kb_NoneType_dict, kb_bool_int, kb_bool_str, kb_bool_bool, kb_bool_tuple, kb_bool_list, kb_bool_dict, kb_int_int, kb_int_str, kb_int_bool, kb_int_tuple, kb_int_list, kb_int_dict, kb_str_int, kb_str_str, kb_str_bool, kb_str_tuple, kb_str_list, kb_str_dict, kb_tuple_int, kb_tuple_str, kb_tuple_bool, kb_tuple_tuple, kb_tuple_list, kb_tuple_dict, kb_list_int, kb_list_str, kb_list_bool, kb_list_tuple, kb_list_list, kb_list_dict, kb_dict_int, kb_dict_str, kb_dict_bool, kb_dict_tuple, kb_dict_list, kb_dict_dict, mulL (show (-18446744073709551616 : Int) < q + 1 ∧ q + 1 < 18446744073709551616 by omega), wf]
theorem sums_of {bs : List Int} (hl : bs.length ≤ 100000) : ∃ g, F_sums_of [byD bs] m = .ok (.tup [.int (chk1 bs), .int (chk2 bs)]) (m ++ g) := by
  have cp : ∀ (x : Option D), fComp [3, 4] (fEnum (aCons (fVar 0) aNil)) (gTupT 2 (gsCons (gN 3) (gsCons (gN 4) gsNil))) ftYes (f2 gMul2 (f2 gAdd (fVar 3) (fC (.int 1))) (fVar 4)) [some (byD bs), x, none, none, none] m =
      .ok (.ref m.length) (m ++ [.lst ((wl 0 bs).map D.int)]) := by
    intro x
    refine comp_eq (enum_src (m1 := m) rfl) ?_
    rw [← wl_map]
    refine comp_all wf (fun _ => rfl) _ (by show (enumD 0 (bs.map D.int)).length ≤ _; rw [enum_len, List.length_map]; omega) fun acc d hd => ?_
    obtain ⟨i, b, rfl, hi⟩ := enum_mem hd
    exact sums_item (by omega) (by omega)
  refine ⟨[.lst ((wl 0 bs).map D.int)], ?_⟩
  unfold F_sums_of B_sums_of
  generalize fComp [3, 4] (fEnum (aCons (fVar 0) aNil)) (gTupT 2 (gsCons (gN 3) (gsCons (gN 4) gsNil))) ftYes (f2 gMul2 (f2 gAdd (fVar 3) (fC (.int 1))) (fVar 4)) = Y at cp ⊢
  have s1 : gSum2 [.tup (bs.map D.int)] m = .ok (.int bs.sum) m := sum_tup
  simp only [fnD, startE, List.map_cons, List.map_nil, List.length_cons, List.length_nil, List.replicate, List.cons_append, List.nil_append, Nat.reduceAdd, Nat.reduceSub, Nat.zero_add, sSeq, sIf, sSet, sRet, sRetN, sPass, sExpr, sRaise, sBrk, sCnt, bd_ok, bd_ex, bd_bad, rs_ok, rs_ex, rs_bad, nx_ok, fVar, fC, f2, fCall, aCons, aNil, vAnd, vOr, vNot, fAnd, fOr, fNot, fTru, tr_non, tr_bl, tr_int, tr_tup, tr_rol, fBl, bl_b, fIf, fIsi, gIsi, isiB, ty_non, ty_bl, ty_int, ty_str, ty_tup, ty_rol, fChain, lf_gtI, lf_ltI, lf_leI, lf_geI, addI, subI, List.getElem?_cons_zero, List.getElem?_cons_succ, List.set_cons_zero, List.set_cons_succ, fTup, fLst, tup0, lst0, tup1, lst1, tup2, lst2, tup3, lst3, tup4, lst4, tup5, lst5, tup6, lst6, tup7, lst7, tup8, lst8, tup9, lst9, tup10, lst10, tup11, lst11, tup12, lst12, fNeg, oSome, oNone, Bool.not_true, Bool.not_false, Bool.false_eq_true, if_true, if_false, ite_true, ite_false, lf_int, lf_lenT, lf_lenO, lf_truB, fM1, sSetIx2, sPar, sPar3, kb_NoneType_int, kb_NoneType_str, kb_NoneType_bool, kb_NoneType_tuple, kb_NoneType_list, kb_NoneType_dict, kb_bool_int, kb_bool_str, kb_bool_bool, kb_bool_tuple, kb_bool_list, kb_bool_dict, kb_int_int, kb_int_str, kb_int_bool, kb_int_tuple, kb_int_list, kb_int_dict, kb_str_int, kb_str_str, kb_str_bool, kb_str_tuple, kb_str_list, kb_str_dict, kb_tuple_int, kb_tuple_str, kb_tuple_bool, kb_tuple_tuple, kb_tuple_list, kb_tuple_dict, kb_list_int, kb_list_str, kb_list_bool, kb_list_tuple, kb_list_list, kb_list_dict, kb_dict_int, kb_dict_str, kb_dict_bool, kb_dict_tuple, kb_dict_list, kb_dict_dict, byD, s1]
  simp only [byD] at cp
  simp only [fnD, startE, List.map_cons, List.map_nil, List.length_cons, List.length_nil, List.replicate, List.cons_append, List.nil_append, Nat.reduceAdd, Nat.reduceSub, Nat.zero_add, sSeq, sIf, sSet, sRet, sRetN, sPass, sExpr, sRaise, sBrk, sCnt, bd_ok, bd_ex, bd_bad, rs_ok, rs_ex, rs_bad, nx_ok, fVar, fC, f2, fCall, aCons, aNil, vAnd, vOr, vNot, fAnd, fOr, fNot, fTru, tr_non, tr_bl, tr_int, tr_tup, tr_rol, fBl, bl_b, fIf, fIsi, gIsi, isiB, ty_non, ty_bl, ty_int, ty_str, ty_tup, ty_rol, fChain, lf_gtI, lf_ltI, lf_leI, lf_geI, addI, subI, List.getElem?_cons_zero, List.getElem?_cons_succ, List.set_cons_zero, List.set_cons_succ, fTup, fLst, tup0, lst0, tup1, lst1, tup2, lst2, tup3, lst3, tup4, lst4, tup5, lst5, tup6, lst6, tup7, lst7, tup8, lst8, tup9, lst9, tup10, lst10, tup11, lst11, tup12, lst12, fNeg, oSome, oNone, Bool.not_true, Bool.not_false, Bool.false_eq_true, if_true, if_false, ite_true, ite_false, lf_int, lf_lenT, lf_lenO, lf_truB, fM1, sSetIx2, sPar, sPar3, kb_NoneType_int, kb_NoneType_str, kb_NoneType_bool, kb_NoneType_tuple, kb_NoneType_list, kb_NoneType_dict, kb_bool_int, kb_bool_str, kb_bool_bool, kb_bool_tuple, kb_bool_list, kb_bool_dict, kb_int_int, kb_int_str, kb_int_bool, kb_int_tuple, kb_int_list, kb_int_dict, kb_str_int, kb_str_str, kb_str_bool, kb_str_tuple, kb_str_list, kb_str_dict, kb_tuple_int, kb_tuple_str, kb_tuple_bool, kb_tuple_tuple, kb_tuple_list, kb_tuple_dict, kb_list_int, kb_list_str, kb_list_bool, kb_list_tuple, kb_list_list, kb_list_dict, kb_dict_int, kb_dict_str, kb_dict_bool, kb_dict_tuple, kb_dict_list, kb_dict_dict, cp, sum_ref (m := m ++ [.lst ((wl 0 bs).map D.int)]) getLast, mod_ (show (0 : Int) < 257 by decide), wl_sum]
  rfl
theorem chk_small (bs : List Int) : 0 ≤ chk1 bs ∧ chk1 bs < 257 ∧ 0 ≤ chk2 bs ∧ chk2 bs < 257 := by
  unfold chk1 chk2
  omega
def wchk (bs : List Int) : List Int := bs ++ (octs (chk1 bs) 2 ++ octs (chk2 bs) 2)
theorem add_tup {xs ys : List D} (h : xs.length + ys.length ≤ 16777216) : gAdd (.tup xs) (.tup ys) m = .ok (.tup (xs ++ ys)) m := lf_addT h
theorem octets_with_check {bs : List Int} (hl : bs.length ≤ 100000) : ∃ g, F_octets_with_check [byD bs] m = .ok (byD (wchk bs)) (m ++ g) := by
  obtain ⟨g1, e1⟩ := sums_of (m := m) hl
  obtain ⟨g2, e2⟩ := number_octets (m := m ++ g1) (n := chk1 bs) (k := 2) (by decide) (by decide)
  obtain ⟨g3, e3⟩ := number_octets (m := m ++ g1 ++ g2) (n := chk2 bs) (k := 2) (by decide) (by decide)
  refine ⟨g1 ++ (g2 ++ g3), ?_⟩
  have a1 : gAdd (byD bs) (byD (octs (chk1 bs) 2)) (m ++ g1 ++ g2) = .ok (byD (bs ++ octs (chk1 bs) 2)) (m ++ g1 ++ g2) := by
    rw [byD, byD, add_tup (by rw [List.length_map, List.length_map, octs_len]; omega), ← List.map_append]
  have a2 : gAdd (byD (bs ++ octs (chk1 bs) 2)) (byD (octs (chk2 bs) 2)) (m ++ g1 ++ g2 ++ g3) = .ok (byD (wchk bs)) (m ++ g1 ++ g2 ++ g3) := by
    rw [byD, byD, add_tup (by rw [List.length_map, List.length_map, List.length_append, octs_len, octs_len]; omega), ← List.map_append, wchk, List.append_assoc]
  unfold F_octets_with_check B_octets_with_check
  simp only [fnD, startE, List.map_cons, List.map_nil, List.length_cons, List.length_nil, List.replicate, List.cons_append, List.nil_append, Nat.reduceAdd, Nat.reduceSub, Nat.zero_add, sSeq, sIf, sSet, sRet, sRetN, sPass, sExpr, sRaise, sBrk, sCnt, bd_ok, bd_ex, bd_bad, rs_ok, rs_ex, rs_bad, nx_ok, fVar, fC, f2, fCall, aCons, aNil, vAnd, vOr, vNot, fAnd, fOr, fNot, fTru, tr_non, tr_bl, tr_int, tr_tup, tr_rol, fBl, bl_b, fIf, fIsi, gIsi, isiB, ty_non, ty_bl, ty_int, ty_str, ty_tup, ty_rol, fChain, lf_gtI, lf_ltI, lf_leI, lf_geI, addI, subI, List.getElem?_cons_zero, List.getElem?_cons_succ, List.set_cons_zero, List.set_cons_succ, fTup, fLst, tup0, lst0, tup1, lst1, tup2, lst2, tup3, lst3, tup4, lst4, tup5, lst5, tup6, lst6, tup7, lst7, tup8, lst8, tup9, lst9, tup10, lst10, tup11, lst11, tup12, lst12, fNeg, oSome, oNone, Bool.not_true, Bool.not_false, Bool.false_eq_true, if_true, if_false, ite_true, ite_false, lf_int, lf_lenT, lf_lenO, lf_truB, fM1, sSetIx2, sPar, sPar3, kb_NoneType_int, kb_NoneType_str, kb_NoneType_bool, kb_NoneType_tuple, kb_NoneType_list, kb_NoneType_dict, kb_bool_int, kb_bool_str, kb_bool_bool, kb_bool_tuple, kb_bool_list, kb_bool_dict, kb_int_int, kb_int_str, kb_int_bool, kb_int_tuple, kb_int_list, kb_int_dict, kb_str_int, kb_str_str, kb_str_bool, kb_str_tuple, kb_str_list, kb_str_dict, kb_tuple_int, kb_tuple_str, kb_tuple_bool, kb_tuple_tuple, kb_tuple_list, kb_tuple_dict, kb_list_int, kb_list_str, kb_list_bool, kb_list_tuple, kb_list_list, kb_list_dict, kb_dict_int, kb_dict_str, kb_dict_bool, kb_dict_tuple, kb_dict_list, kb_dict_dict, sAsg, e1, gTupT, gsCons, gsNil, gN, if_true]
  rw [show (2 : Int).toNat = 2 from rfl] at e2 e3
  simp only [byD] at e2 e3 a1 a2 ⊢
  simp only [fnD, startE, List.map_cons, List.map_nil, List.length_cons, List.length_nil, List.replicate, List.cons_append, List.nil_append, Nat.reduceAdd, Nat.reduceSub, Nat.zero_add, sSeq, sIf, sSet, sRet, sRetN, sPass, sExpr, sRaise, sBrk, sCnt, bd_ok, bd_ex, bd_bad, rs_ok, rs_ex, rs_bad, nx_ok, fVar, fC, f2, fCall, aCons, aNil, vAnd, vOr, vNot, fAnd, fOr, fNot, fTru, tr_non, tr_bl, tr_int, tr_tup, tr_rol, fBl, bl_b, fIf, fIsi, gIsi, isiB, ty_non, ty_bl, ty_int, ty_str, ty_tup, ty_rol, fChain, lf_gtI, lf_ltI, lf_leI, lf_geI, addI, subI, List.getElem?_cons_zero, List.getElem?_cons_succ, List.set_cons_zero, List.set_cons_succ, fTup, fLst, tup0, lst0, tup1, lst1, tup2, lst2, tup3, lst3, tup4, lst4, tup5, lst5, tup6, lst6, tup7, lst7, tup8, lst8, tup9, lst9, tup10, lst10, tup11, lst11, tup12, lst12, fNeg, oSome, oNone, Bool.not_true, Bool.not_false, Bool.false_eq_true, if_true, if_false, ite_true, ite_false, lf_int, lf_lenT, lf_lenO, lf_truB, fM1, sSetIx2, sPar, sPar3, kb_NoneType_int, kb_NoneType_str, kb_NoneType_bool, kb_NoneType_tuple, kb_NoneType_list, kb_NoneType_dict, kb_bool_int, kb_bool_str, kb_bool_bool, kb_bool_tuple, kb_bool_list, kb_bool_dict, kb_int_int, kb_int_str, kb_int_bool, kb_int_tuple, kb_int_list, kb_int_dict, kb_str_int, kb_str_str, kb_str_bool, kb_str_tuple, kb_str_list, kb_str_dict, kb_tuple_int, kb_tuple_str, kb_tuple_bool, kb_tuple_tuple, kb_tuple_list, kb_tuple_dict, kb_list_int, kb_list_str, kb_list_bool, kb_list_tuple, kb_list_list, kb_list_dict, kb_dict_int, kb_dict_str, kb_dict_bool, kb_dict_tuple, kb_dict_list, kb_dict_dict, e2, a1, e3, a2]
  simp only [List.append_assoc]
end
end Pm
end
section
set_option Elab.async false
set_option linter.all false
set_option maxRecDepth 100000
set_option maxHeartbeats 4000000
open PySem L2 Mn Pk
namespace Pm
section
variable {m : Mem} {n : Nat} {d x : D} {o : Mn.Obj} {r : Mem}
/-! ### equality -/
theorem eqI {a c : Int} : gEq (.int a) (.int c) m = .ok (.bl (decide (a = c))) m := lf_eqI
theorem neI {a c : Int} : gNe (.int a) (.int c) m = .ok (.bl (!decide (a = c))) m := lf_neI
theorem eqB {a c : Bool} : gEq (.bl a) (.bl c) m = .ok (.bl (decide (a = c))) m := lf_eqB
theorem neB {a c : Bool} : gNe (.bl a) (.bl c) m = .ok (.bl (!decide (a = c))) m := lf_neB
theorem eqS {s t : Str} (h1 : PyData.strOk s = true) (h2 : PyData.strOk t = true) : gEq (.str s) (.str t) m = .ok (.bl (decide (s = t))) m := lf_eqS h1 h2
theorem neS {s t : Str} (h1 : PyData.strOk s = true) (h2 : PyData.strOk t = true) : gNe (.str s) (.str t) m = .ok (.bl (!decide (s = t))) m := lf_neS h1 h2
theorem pyL_ints : ∀ ys : List Int, pyL (ys.map D.int) = some (ys.map PyData.int)
  | [] => rfl
  | y :: r => by simp only [List.map_cons, pyL, pyD, pyL_ints r]
theorem eqv_int {a c : Int} : PyData.eqv (.int a) (.int c) = decide (a = c) := by
  by_cases h : a = c
  · subst h; simp [PyData.eqv]
  · simp [PyData.eqv, h]
theorem eqvAll_ints : ∀ xs ys : List Int, PyData.eqvAll (xs.map PyData.int) (ys.map PyData.int) = decide (xs = ys)
  | [], [] => rfl
  | [], _ :: _ => by simp [PyData.eqvAll]
  | _ :: _, [] => by simp [PyData.eqvAll]
  | x :: r, y :: q => by
    simp only [List.map_cons, PyData.eqvAll, eqv_int, eqvAll_ints r q]
    by_cases e : x = y
    · subst e
      by_cases e2 : r = q
      · subst e2; simp
      · rw [decide_eq_false e2, decide_eq_false (fun z => e2 (List.cons.inj z).2), Bool.and_false]
    · rw [decide_eq_false e, decide_eq_false (fun z => e (List.cons.inj z).1), Bool.false_and]
theorem lay_ints : ∀ ys : List Int, PyData.canLayAll0 (ys.map PyData.int) = true
  | [] => rfl
  | y :: r => by simp only [List.map_cons, PyData.canLayAll0, PyData.canLay0, lay_ints r, Bool.and_self]
theorem dep_ints : ∀ ys : List Int, PyData.depthAll (ys.map PyData.int) = 0
  | [] => rfl
  | y :: r => by simp only [List.map_cons, PyData.depthAll, PyData.depth, dep_ints r]; rfl
theorem shaped_ints (ys : List Int) : SeqAt.shaped (.tuple (ys.map PyData.int)) = true := by
  simp [SeqAt.shaped, PyData.canLay0, PyData.depth, lay_ints, dep_ints]
theorem eqBy {xs ys : List Int} : gEq (byD xs) (byD ys) m = .ok (.bl (decide (xs = ys))) m := by
  unfold gEq
  simp only [pyM, pyD, byD, pyL_ints, shaped_ints, Bool.and_self, if_true, PyData.eqv, eqvAll_ints]
theorem neBy {xs ys : List Int} : gNe (byD xs) (byD ys) m = .ok (.bl (!decide (xs = ys))) m := by
  unfold gNe
  simp only [pyM, pyD, byD, pyL_ints, shaped_ints, Bool.and_self, if_true, PyData.eqv, eqvAll_ints]
theorem eqR0 {n k : Nat} (h1 : m[n]? = some (.lst [])) (h2 : m[k]? = some (.lst [])) : gEq (.ref n) (.ref k) m = .ok (.bl true) m := by
  unfold gEq
  simp only [pyM, h1, h2, pyL]
  rfl
/-! ### the law's own equality, of a value with itself -/
def okD : Nat → D → Bool
  | 0, _ => false
  | _ + 1, .non => true
  | _ + 1, .bl _ => true
  | _ + 1, .int _ => true
  | _ + 1, .str s => PyData.strOk s
  | n + 1, .tup ds => decide (ds.length ≤ 100000) && ds.all (okD n)
  | _ + 1, _ => false
theorem isN_no (h : d ≠ .non) : gIsN d .non m = .ok (.bl false) m := by
  rw [lf_isN, decide_eq_false h]
theorem comp_no {tt : Mn.Env → Mem → Res Bool} {te : Mn.Env → Mem → Res D} {ρ : Mn.Env} {k : Nat} : ∀ (ds : List D) (g : Mem),
    (∀ d ∈ ds, ∀ g, ∃ g', tt (ρ.set k (some d)) (m ++ .lst [] :: g) = .ok false (m ++ .lst [] :: (g ++ g'))) →
    ∃ g', compD m.length (fun _ => true) (gN k) tt te ρ ds (m ++ .lst [] :: g) = .ok (.ref m.length) (m ++ .lst [] :: g')
  | [], g, h => ⟨g, by simp only [compD, if_true]⟩
  | d :: ds, g, h => by
    obtain ⟨g1, e1⟩ := h d List.mem_cons_self g
    obtain ⟨g2, e2⟩ := comp_no ds (g ++ g1) fun d hd => h d (List.mem_cons_of_mem _ hd)
    refine ⟨g2, ?_⟩
    simp only [compD, if_true, gN, e1, noex, Res.bind]
    exact e2
theorem ne_refl {a : Int} {b : Bool} : gNe (.int a) (.int a) m = .ok (.bl false) m ∧ gNe (.bl b) (.bl b) m = .ok (.bl false) m := by
  rw [neI, neB, decide_eq_true rfl, decide_eq_true rfl]
  exact ⟨rfl, rfl⟩
theorem alike_tail {f : List D → Mem → Res D} {ds : List D} (hl : ds.length ≤ 100000) (h : ∀ d ∈ ds, ∀ m, ∃ g, f [d, d] m = .ok (.bl true) (m ++ g)) :
    ∃ g, fnD N_law_alike (B_law_alike f) [.tup ds, .tup ds] m = .ok (.bl true) (m ++ g) := by
  have cp : ∃ g', fComp [2] (fRng (aCons (fCall gLen (aCons (fVar 1) aNil)) aNil)) (gN 2) (fNot (fTru (fCall f (aCons (f2 gIx2 (fVar 0) (fVar 2)) (aCons (f2 gIx2 (fVar 1) (fVar 2)) aNil))))) (fVar 2) [some (.tup ds), some (.tup ds), none] m =
      .ok (.ref m.length) (m ++ .lst [] :: g') := by
    obtain ⟨g', e⟩ := comp_no (m := m) (tt := fNot (fTru (fCall f (aCons (f2 gIx2 (fVar 0) (fVar 2)) (aCons (f2 gIx2 (fVar 1) (fVar 2)) aNil))))) (te := fVar 2) (ρ := [some (.tup ds), some (.tup ds), none]) (k := 2) (rangeD 0 (ds.length : Int)) [] fun d hd g => by
      obtain ⟨j, rfl, h0, h1⟩ := rng_int hd
      obtain ⟨y, hy1, hy2⟩ := atI_mem (xs := ds) (v := j) h0 h1
      obtain ⟨g1, e1⟩ := h y hy1 (m ++ .lst [] :: g)
      refine ⟨g1, ?_⟩
      simp only [fnD, startE, List.map_cons, List.map_nil, List.length_cons, List.length_nil, List.replicate, List.cons_append, List.nil_append, Nat.reduceAdd, Nat.reduceSub, Nat.zero_add, sSeq, sIf, sSet, sRet, sRetN, sPass, sExpr, sRaise, sBrk, sCnt, bd_ok, bd_ex, bd_bad, rs_ok, rs_ex, rs_bad, nx_ok, fVar, fC, f2, fCall, aCons, aNil, vAnd, vOr, vNot, fAnd, fOr, fNot, fTru, tr_non, tr_bl, tr_int, tr_tup, tr_rol, fBl, bl_b, fIf, fIsi, gIsi, isiB, ty_non, ty_bl, ty_int, ty_str, ty_tup, ty_rol, fChain, lf_gtI, lf_ltI, lf_leI, lf_geI, addI, subI, List.getElem?_cons_zero, List.getElem?_cons_succ, List.set_cons_zero, List.set_cons_succ, fTup, fLst, tup0, lst0, tup1, lst1, tup2, lst2, tup3, lst3, tup4, lst4, tup5, lst5, tup6, lst6, tup7, lst7, tup8, lst8, tup9, lst9, tup10, lst10, tup11, lst11, tup12, lst12, fNeg, oSome, oNone, Bool.not_true, Bool.not_false, Bool.false_eq_true, if_true, if_false, ite_true, ite_false, lf_int, lf_lenT, lf_lenO, lf_truB, fM1, sSetIx2, sPar, sPar3, kb_NoneType_int, kb_NoneType_str, kb_NoneType_bool, kb_NoneType_tuple, kb_NoneType_list, kb_NoneType_dict, kb_bool_int, kb_bool_str, kb_bool_bool, kb_bool_tuple, kb_bool_list, kb_bool_dict, kb_int_int, kb_int_str, kb_int_bool, kb_int_tuple, kb_int_list, kb_int_dict, kb_str_int, kb_str_str, kb_str_bool, kb_str_tuple, kb_str_list, kb_str_dict, kb_tuple_int, kb_tuple_str, kb_tuple_bool, kb_tuple_tuple, kb_tuple_list, kb_tuple_dict, kb_list_int, kb_list_str, kb_list_bool, kb_list_tuple, kb_list_list, kb_list_dict, kb_dict_int, kb_dict_str, kb_dict_bool, kb_dict_tuple, kb_dict_list, kb_dict_dict, ix2T hy2, e1, List.append_assoc]
    exact ⟨g', comp_eq (rng_run (m1 := m) (by simp only [fnD, startE, List.map_cons, List.map_nil, List.length_cons, List.length_nil, List.replicate, List.cons_append, List.nil_append, Nat.reduceAdd, Nat.reduceSub, Nat.zero_add, sSeq, sIf, sSet, sRet, sRetN, sPass, sExpr, sRaise, sBrk, sCnt, bd_ok, bd_ex, bd_bad, rs_ok, rs_ex, rs_bad, nx_ok, fVar, fC, f2, fCall, aCons, aNil, vAnd, vOr, vNot, fAnd, fOr, fNot, fTru, tr_non, tr_bl, tr_int, tr_tup, tr_rol, fBl, bl_b, fIf, fIsi, gIsi, isiB, ty_non, ty_bl, ty_int, ty_str, ty_tup, ty_rol, fChain, lf_gtI, lf_ltI, lf_leI, lf_geI, addI, subI, List.getElem?_cons_zero, List.getElem?_cons_succ, List.set_cons_zero, List.set_cons_succ, fTup, fLst, tup0, lst0, tup1, lst1, tup2, lst2, tup3, lst3, tup4, lst4, tup5, lst5, tup6, lst6, tup7, lst7, tup8, lst8, tup9, lst9, tup10, lst10, tup11, lst11, tup12, lst12, fNeg, oSome, oNone, Bool.not_true, Bool.not_false, Bool.false_eq_true, if_true, if_false, ite_true, ite_false, lf_int, lf_lenT, lf_lenO, lf_truB, fM1, sSetIx2, sPar, sPar3, kb_NoneType_int, kb_NoneType_str, kb_NoneType_bool, kb_NoneType_tuple, kb_NoneType_list, kb_NoneType_dict, kb_bool_int, kb_bool_str, kb_bool_bool, kb_bool_tuple, kb_bool_list, kb_bool_dict, kb_int_int, kb_int_str, kb_int_bool, kb_int_tuple, kb_int_list, kb_int_dict, kb_str_int, kb_str_str, kb_str_bool, kb_str_tuple, kb_str_list, kb_str_dict, kb_tuple_int, kb_tuple_str, kb_tuple_bool, kb_tuple_tuple, kb_tuple_list, kb_tuple_dict, kb_list_int, kb_list_str, kb_list_bool, kb_list_tuple, kb_list_list, kb_list_dict, kb_dict_int, kb_dict_str, kb_dict_bool, kb_dict_tuple, kb_dict_list, kb_dict_dict]) (by omega) (by omega)) e⟩
  obtain ⟨g', cp⟩ := cp
  refine ⟨.lst [] :: g' ++ [.lst []], ?_⟩
  have eq := eqR0 (m := m ++ Mn.Obj.lst [] :: g' ++ [.lst []]) (n := m.length) (k := (m ++ Mn.Obj.lst [] :: g').length) (by simp) getLast
  have ne := (ne_refl (m := m) (a := (ds.length : Int)) (b := false))
  unfold B_law_alike
  generalize fComp [2] (fRng (aCons (fCall gLen (aCons (fVar 1) aNil)) aNil)) (gN 2) (fNot (fTru (fCall f (aCons (f2 gIx2 (fVar 0) (fVar 2)) (aCons (f2 gIx2 (fVar 1) (fVar 2)) aNil))))) (fVar 2) = Y at cp ⊢
  simp only [fnD, startE, List.map_cons, List.map_nil, List.length_cons, List.length_nil, List.replicate, List.cons_append, List.nil_append, Nat.reduceAdd, Nat.reduceSub, Nat.zero_add, sSeq, sIf, sSet, sRet, sRetN, sPass, sExpr, sRaise, sBrk, sCnt, bd_ok, bd_ex, bd_bad, rs_ok, rs_ex, rs_bad, nx_ok, fVar, fC, f2, fCall, aCons, aNil, vAnd, vOr, vNot, fAnd, fOr, fNot, fTru, tr_non, tr_bl, tr_int, tr_tup, tr_rol, fBl, bl_b, fIf, fIsi, gIsi, isiB, ty_non, ty_bl, ty_int, ty_str, ty_tup, ty_rol, fChain, lf_gtI, lf_ltI, lf_leI, lf_geI, addI, subI, List.getElem?_cons_zero, List.getElem?_cons_succ, List.set_cons_zero, List.set_cons_succ, fTup, fLst, tup0, lst0, tup1, lst1, tup2, lst2, tup3, lst3, tup4, lst4, tup5, lst5, tup6, lst6, tup7, lst7, tup8, lst8, tup9, lst9, tup10, lst10, tup11, lst11, tup12, lst12, fNeg, oSome, oNone, Bool.not_true, Bool.not_false, Bool.false_eq_true, if_true, if_false, ite_true, ite_false, lf_int, lf_lenT, lf_lenO, lf_truB, fM1, sSetIx2, sPar, sPar3, kb_NoneType_int, kb_NoneType_str, kb_NoneType_bool, kb_NoneType_tuple, kb_NoneType_list, kb_NoneType_dict, kb_bool_int, kb_bool_str, kb_bool_bool, kb_bool_tuple, kb_bool_list, kb_bool_dict, kb_int_int, kb_int_str, kb_int_bool, kb_int_tuple, kb_int_list, kb_int_dict, kb_str_int, kb_str_str, kb_str_bool, kb_str_tuple, kb_str_list, kb_str_dict, kb_tuple_int, kb_tuple_str, kb_tuple_bool, kb_tuple_tuple, kb_tuple_list, kb_tuple_dict, kb_list_int, kb_list_str, kb_list_bool, kb_list_tuple, kb_list_list, kb_list_dict, kb_dict_int, kb_dict_str, kb_dict_bool, kb_dict_tuple, kb_dict_list, kb_dict_dict, ne.1, ne.2, cp, eq]
  simp only [List.append_assoc, List.cons_append]
theorem alike : ∀ (k : Nat) (d : D), okD k d = true → ∀ m, ∃ g, F_law_alike k [d, d] m = .ok (.bl true) (m ++ g)
  | 0, d, h, m => by cases h
  | k + 1, .non, h, m => ⟨[], by
    have e1 : gIsN .non .non m = .ok (.bl true) m := rfl
    have e2 : gEq .non .non m = .ok (.bl true) m := rfl
    have e3 := eqB (m := m) (a := false) (c := false)
    unfold F_law_alike B_law_alike
    simp only [fnD, startE, List.map_cons, List.map_nil, List.length_cons, List.length_nil, List.replicate, List.cons_append, List.nil_append, Nat.reduceAdd, Nat.reduceSub, Nat.zero_add, sSeq, sIf, sSet, sRet, sRetN, sPass, sExpr, sRaise, sBrk, sCnt, bd_ok, bd_ex, bd_bad, rs_ok, rs_ex, rs_bad, nx_ok, fVar, fC, f2, fCall, aCons, aNil, vAnd, vOr, vNot, fAnd, fOr, fNot, fTru, tr_non, tr_bl, tr_int, tr_tup, tr_rol, fBl, bl_b, fIf, fIsi, gIsi, isiB, ty_non, ty_bl, ty_int, ty_str, ty_tup, ty_rol, fChain, lf_gtI, lf_ltI, lf_leI, lf_geI, addI, subI, List.getElem?_cons_zero, List.getElem?_cons_succ, List.set_cons_zero, List.set_cons_succ, fTup, fLst, tup0, lst0, tup1, lst1, tup2, lst2, tup3, lst3, tup4, lst4, tup5, lst5, tup6, lst6, tup7, lst7, tup8, lst8, tup9, lst9, tup10, lst10, tup11, lst11, tup12, lst12, fNeg, oSome, oNone, Bool.not_true, Bool.not_false, Bool.false_eq_true, if_true, if_false, ite_true, ite_false, lf_int, lf_lenT, lf_lenO, lf_truB, fM1, sSetIx2, sPar, sPar3, kb_NoneType_int, kb_NoneType_str, kb_NoneType_bool, kb_NoneType_tuple, kb_NoneType_list, kb_NoneType_dict, kb_bool_int, kb_bool_str, kb_bool_bool, kb_bool_tuple, kb_bool_list, kb_bool_dict, kb_int_int, kb_int_str, kb_int_bool, kb_int_tuple, kb_int_list, kb_int_dict, kb_str_int, kb_str_str, kb_str_bool, kb_str_tuple, kb_str_list, kb_str_dict, kb_tuple_int, kb_tuple_str, kb_tuple_bool, kb_tuple_tuple, kb_tuple_list, kb_tuple_dict, kb_list_int, kb_list_str, kb_list_bool, kb_list_tuple, kb_list_list, kb_list_dict, kb_dict_int, kb_dict_str, kb_dict_bool, kb_dict_tuple, kb_dict_list, kb_dict_dict, e1, e2, e3, decide_true, List.append_nil]⟩
  | k + 1, .bl b, h, m => ⟨[], by
    have e1 := isN_no (d := .bl b) (m := m) (fun z => by cases z)
    have e2 := eqB (m := m) (a := true) (c := true)
    have e3 := eqB (m := m) (a := b) (c := b)
    unfold F_law_alike B_law_alike
    simp only [fnD, startE, List.map_cons, List.map_nil, List.length_cons, List.length_nil, List.replicate, List.cons_append, List.nil_append, Nat.reduceAdd, Nat.reduceSub, Nat.zero_add, sSeq, sIf, sSet, sRet, sRetN, sPass, sExpr, sRaise, sBrk, sCnt, bd_ok, bd_ex, bd_bad, rs_ok, rs_ex, rs_bad, nx_ok, fVar, fC, f2, fCall, aCons, aNil, vAnd, vOr, vNot, fAnd, fOr, fNot, fTru, tr_non, tr_bl, tr_int, tr_tup, tr_rol, fBl, bl_b, fIf, fIsi, gIsi, isiB, ty_non, ty_bl, ty_int, ty_str, ty_tup, ty_rol, fChain, lf_gtI, lf_ltI, lf_leI, lf_geI, addI, subI, List.getElem?_cons_zero, List.getElem?_cons_succ, List.set_cons_zero, List.set_cons_succ, fTup, fLst, tup0, lst0, tup1, lst1, tup2, lst2, tup3, lst3, tup4, lst4, tup5, lst5, tup6, lst6, tup7, lst7, tup8, lst8, tup9, lst9, tup10, lst10, tup11, lst11, tup12, lst12, fNeg, oSome, oNone, Bool.not_true, Bool.not_false, Bool.false_eq_true, if_true, if_false, ite_true, ite_false, lf_int, lf_lenT, lf_lenO, lf_truB, fM1, sSetIx2, sPar, sPar3, kb_NoneType_int, kb_NoneType_str, kb_NoneType_bool, kb_NoneType_tuple, kb_NoneType_list, kb_NoneType_dict, kb_bool_int, kb_bool_str, kb_bool_bool, kb_bool_tuple, kb_bool_list, kb_bool_dict, kb_int_int, kb_int_str, kb_int_bool, kb_int_tuple, kb_int_list, kb_int_dict, kb_str_int, kb_str_str, kb_str_bool, kb_str_tuple, kb_str_list, kb_str_dict, kb_tuple_int, kb_tuple_str, kb_tuple_bool, kb_tuple_tuple, kb_tuple_list, kb_tuple_dict, kb_list_int, kb_list_str, kb_list_bool, kb_list_tuple, kb_list_list, kb_list_dict, kb_dict_int, kb_dict_str, kb_dict_bool, kb_dict_tuple, kb_dict_list, kb_dict_dict, e1, e2, e3, decide_true, List.append_nil]⟩
  | k + 1, .int b, h, m => ⟨[], by
    have e1 := isN_no (d := .int b) (m := m) (fun z => by cases z)
    have e2 := eqB (m := m) (a := false) (c := false)
    have e3 := eqI (m := m) (a := b) (c := b)
    unfold F_law_alike B_law_alike
    simp only [fnD, startE, List.map_cons, List.map_nil, List.length_cons, List.length_nil, List.replicate, List.cons_append, List.nil_append, Nat.reduceAdd, Nat.reduceSub, Nat.zero_add, sSeq, sIf, sSet, sRet, sRetN, sPass, sExpr, sRaise, sBrk, sCnt, bd_ok, bd_ex, bd_bad, rs_ok, rs_ex, rs_bad, nx_ok, fVar, fC, f2, fCall, aCons, aNil, vAnd, vOr, vNot, fAnd, fOr, fNot, fTru, tr_non, tr_bl, tr_int, tr_tup, tr_rol, fBl, bl_b, fIf, fIsi, gIsi, isiB, ty_non, ty_bl, ty_int, ty_str, ty_tup, ty_rol, fChain, lf_gtI, lf_ltI, lf_leI, lf_geI, addI, subI, List.getElem?_cons_zero, List.getElem?_cons_succ, List.set_cons_zero, List.set_cons_succ, fTup, fLst, tup0, lst0, tup1, lst1, tup2, lst2, tup3, lst3, tup4, lst4, tup5, lst5, tup6, lst6, tup7, lst7, tup8, lst8, tup9, lst9, tup10, lst10, tup11, lst11, tup12, lst12, fNeg, oSome, oNone, Bool.not_true, Bool.not_false, Bool.false_eq_true, if_true, if_false, ite_true, ite_false, lf_int, lf_lenT, lf_lenO, lf_truB, fM1, sSetIx2, sPar, sPar3, kb_NoneType_int, kb_NoneType_str, kb_NoneType_bool, kb_NoneType_tuple, kb_NoneType_list, kb_NoneType_dict, kb_bool_int, kb_bool_str, kb_bool_bool, kb_bool_tuple, kb_bool_list, kb_bool_dict, kb_int_int, kb_int_str, kb_int_bool, kb_int_tuple, kb_int_list, kb_int_dict, kb_str_int, kb_str_str, kb_str_bool, kb_str_tuple, kb_str_list, kb_str_dict, kb_tuple_int, kb_tuple_str, kb_tuple_bool, kb_tuple_tuple, kb_tuple_list, kb_tuple_dict, kb_list_int, kb_list_str, kb_list_bool, kb_list_tuple, kb_list_list, kb_list_dict, kb_dict_int, kb_dict_str, kb_dict_bool, kb_dict_tuple, kb_dict_list, kb_dict_dict, e1, e2, e3, decide_true, List.append_nil]⟩
  | k + 1, .str s, h, m => ⟨[], by
    have e1 := isN_no (d := .str s) (m := m) (fun z => by cases z)
    have e2 := eqB (m := m) (a := true) (c := true)
    have e3 := eqS (m := m) (s := s) (t := s) h h
    unfold F_law_alike B_law_alike
    simp only [fnD, startE, List.map_cons, List.map_nil, List.length_cons, List.length_nil, List.replicate, List.cons_append, List.nil_append, Nat.reduceAdd, Nat.reduceSub, Nat.zero_add, sSeq, sIf, sSet, sRet, sRetN, sPass, sExpr, sRaise, sBrk, sCnt, bd_ok, bd_ex, bd_bad, rs_ok, rs_ex, rs_bad, nx_ok, fVar, fC, f2, fCall, aCons, aNil, vAnd, vOr, vNot, fAnd, fOr, fNot, fTru, tr_non, tr_bl, tr_int, tr_tup, tr_rol, fBl, bl_b, fIf, fIsi, gIsi, isiB, ty_non, ty_bl, ty_int, ty_str, ty_tup, ty_rol, fChain, lf_gtI, lf_ltI, lf_leI, lf_geI, addI, subI, List.getElem?_cons_zero, List.getElem?_cons_succ, List.set_cons_zero, List.set_cons_succ, fTup, fLst, tup0, lst0, tup1, lst1, tup2, lst2, tup3, lst3, tup4, lst4, tup5, lst5, tup6, lst6, tup7, lst7, tup8, lst8, tup9, lst9, tup10, lst10, tup11, lst11, tup12, lst12, fNeg, oSome, oNone, Bool.not_true, Bool.not_false, Bool.false_eq_true, if_true, if_false, ite_true, ite_false, lf_int, lf_lenT, lf_lenO, lf_truB, fM1, sSetIx2, sPar, sPar3, kb_NoneType_int, kb_NoneType_str, kb_NoneType_bool, kb_NoneType_tuple, kb_NoneType_list, kb_NoneType_dict, kb_bool_int, kb_bool_str, kb_bool_bool, kb_bool_tuple, kb_bool_list, kb_bool_dict, kb_int_int, kb_int_str, kb_int_bool, kb_int_tuple, kb_int_list, kb_int_dict, kb_str_int, kb_str_str, kb_str_bool, kb_str_tuple, kb_str_list, kb_str_dict, kb_tuple_int, kb_tuple_str, kb_tuple_bool, kb_tuple_tuple, kb_tuple_list, kb_tuple_dict, kb_list_int, kb_list_str, kb_list_bool, kb_list_tuple, kb_list_list, kb_list_dict, kb_dict_int, kb_dict_str, kb_dict_bool, kb_dict_tuple, kb_dict_list, kb_dict_dict, e1, e2, e3, decide_true, List.append_nil]⟩
  | k + 1, .tup ds, h, m => by
    rw [okD, Bool.and_eq_true, List.all_eq_true] at h
    exact alike_tail (of_decide_eq_true h.1) fun d hd m => alike k d (h.2 d hd) m
  | k + 1, .rol _, h, m => by cases h
  | k + 1, .ref _, h, m => by cases h
  | k + 1, .clo _, h, m => by cases h
  | k + 1, .raw _, h, m => by cases h
theorem okBy {bs : List Int} (h : bs.length ≤ 100000) (k : Nat) : okD (k + 2) (byD bs) = true := by
  rw [byD, okD, Bool.and_eq_true, List.all_eq_true]
  refine ⟨decide_eq_true (by rw [List.length_map]; exact h), fun d hd => ?_⟩
  obtain ⟨b, _, rfl⟩ := List.mem_map.mp hd
  rfl
/-! ### the promised functions -/
theorem number_bytes {n k : Int} (h : decide (0 ≤ n ∧ n ≤ 18446744073709551615) = true) (h0 : 1 ≤ k) (hk : k ≤ 8) (he : numOf (octs n k.toNat) = n) : ∃ g, F_number_bytes [.int n, .int k] m = .ok (byD (octs n k.toNat)) (m ++ g) := by
  obtain ⟨g, e⟩ := number_octets (m := m) (n := n) (k := k) (by omega) (by omega)
  refine ⟨g, ?_⟩
  have i1 : F_is_number [.int n, .int 0, .int 18446744073709551615] m = .ok (.bl true) m := by rw [is_number, h]
  have i2 : F_is_number [.int k, .int 1, .int 8] m = .ok (.bl true) m := by rw [is_number, decide_eq_true ⟨h0, hk⟩]
  have on := octets_number (m := m ++ g) (bs := octs n k.toNat)
  rw [he] at on
  have ne := (ne_refl (m := m ++ g) (a := n) (b := true)).1
  simp only [byD] at e on ⊢
  unfold F_number_bytes B_number_bytes
  simp only [fnD, startE, List.map_cons, List.map_nil, List.length_cons, List.length_nil, List.replicate, List.cons_append, List.nil_append, Nat.reduceAdd, Nat.reduceSub, Nat.zero_add, sSeq, sIf, sSet, sRet, sRetN, sPass, sExpr, sRaise, sBrk, sCnt, bd_ok, bd_ex, bd_bad, rs_ok, rs_ex, rs_bad, nx_ok, fVar, fC, f2, fCall, aCons, aNil, vAnd, vOr, vNot, fAnd, fOr, fNot, fTru, tr_non, tr_bl, tr_int, tr_tup, tr_rol, fBl, bl_b, fIf, fIsi, gIsi, isiB, ty_non, ty_bl, ty_int, ty_str, ty_tup, ty_rol, fChain, lf_gtI, lf_ltI, lf_leI, lf_geI, addI, subI, List.getElem?_cons_zero, List.getElem?_cons_succ, List.set_cons_zero, List.set_cons_succ, fTup, fLst, tup0, lst0, tup1, lst1, tup2, lst2, tup3, lst3, tup4, lst4, tup5, lst5, tup6, lst6, tup7, lst7, tup8, lst8, tup9, lst9, tup10, lst10, tup11, lst11, tup12, lst12, fNeg, oSome, oNone, Bool.not_true, Bool.not_false, Bool.false_eq_true, if_true, if_false, ite_true, ite_false, lf_int, lf_lenT, lf_lenO, lf_truB, fM1, sSetIx2, sPar, sPar3, kb_NoneType_int, kb_NoneType_str, kb_NoneType_bool, kb_NoneType_tuple, kb_NoneType_list, kb_NoneType_dict, kb_bool_int, kb_bool_str, kb_bool_bool, kb_bool_tuple, kb_bool_list, kb_bool_dict, kb_int_int, kb_int_str, kb_int_bool, kb_int_tuple, kb_int_list, kb_int_dict, kb_str_int, kb_str_str, kb_str_bool, kb_str_tuple, kb_str_list, kb_str_dict, kb_tuple_int, kb_tuple_str, kb_tuple_bool, kb_tuple_tuple, kb_tuple_list, kb_tuple_dict, kb_list_int, kb_list_str, kb_list_bool, kb_list_tuple, kb_list_list, kb_list_dict, kb_dict_int, kb_dict_str, kb_dict_bool, kb_dict_tuple, kb_dict_list, kb_dict_dict, i1, i2, e, on, ne]
theorem number_bytes_bad {n k : D} {b : Bool} (h1 : F_is_number [n, .int 0, .int 18446744073709551615] m = .ok (.bl b) m) (h2 : F_is_number [k, .int 1, .int 8] m = .ok (.bl false) m) : F_number_bytes [n, k] m = .ex ⟨"BadNumber", []⟩ m := by
  unfold F_number_bytes B_number_bytes
  cases b <;> simp only [fnD, startE, List.map_cons, List.map_nil, List.length_cons, List.length_nil, List.replicate, List.cons_append, List.nil_append, Nat.reduceAdd, Nat.reduceSub, Nat.zero_add, sSeq, sIf, sSet, sRet, sRetN, sPass, sExpr, sRaise, sBrk, sCnt, bd_ok, bd_ex, bd_bad, rs_ok, rs_ex, rs_bad, nx_ok, fVar, fC, f2, fCall, aCons, aNil, vAnd, vOr, vNot, fAnd, fOr, fNot, fTru, tr_non, tr_bl, tr_int, tr_tup, tr_rol, fBl, bl_b, fIf, fIsi, gIsi, isiB, ty_non, ty_bl, ty_int, ty_str, ty_tup, ty_rol, fChain, lf_gtI, lf_ltI, lf_leI, lf_geI, addI, subI, List.getElem?_cons_zero, List.getElem?_cons_succ, List.set_cons_zero, List.set_cons_succ, fTup, fLst, tup0, lst0, tup1, lst1, tup2, lst2, tup3, lst3, tup4, lst4, tup5, lst5, tup6, lst6, tup7, lst7, tup8, lst8, tup9, lst9, tup10, lst10, tup11, lst11, tup12, lst12, fNeg, oSome, oNone, Bool.not_true, Bool.not_false, Bool.false_eq_true, if_true, if_false, ite_true, ite_false, lf_int, lf_lenT, lf_lenO, lf_truB, fM1, sSetIx2, sPar, sPar3, kb_NoneType_int, kb_NoneType_str, kb_NoneType_bool, kb_NoneType_tuple, kb_NoneType_list, kb_NoneType_dict, kb_bool_int, kb_bool_str, kb_bool_bool, kb_bool_tuple, kb_bool_list, kb_bool_dict, kb_int_int, kb_int_str, kb_int_bool, kb_int_tuple, kb_int_list, kb_int_dict, kb_str_int, kb_str_str, kb_str_bool, kb_str_tuple, kb_str_list, kb_str_dict, kb_tuple_int, kb_tuple_str, kb_tuple_bool, kb_tuple_tuple, kb_tuple_list, kb_tuple_dict, kb_list_int, kb_list_str, kb_list_bool, kb_list_tuple, kb_list_list, kb_list_dict, kb_dict_int, kb_dict_str, kb_dict_bool, kb_dict_tuple, kb_dict_list, kb_dict_dict, h1, h2]
theorem number_bytes_bad1 {n k : D} (h1 : F_is_number [n, .int 0, .int 18446744073709551615] m = .ok (.bl false) m) : F_number_bytes [n, k] m = .ex ⟨"BadNumber", []⟩ m := by
  unfold F_number_bytes B_number_bytes
  simp only [fnD, startE, List.map_cons, List.map_nil, List.length_cons, List.length_nil, List.replicate, List.cons_append, List.nil_append, Nat.reduceAdd, Nat.reduceSub, Nat.zero_add, sSeq, sIf, sSet, sRet, sRetN, sPass, sExpr, sRaise, sBrk, sCnt, bd_ok, bd_ex, bd_bad, rs_ok, rs_ex, rs_bad, nx_ok, fVar, fC, f2, fCall, aCons, aNil, vAnd, vOr, vNot, fAnd, fOr, fNot, fTru, tr_non, tr_bl, tr_int, tr_tup, tr_rol, fBl, bl_b, fIf, fIsi, gIsi, isiB, ty_non, ty_bl, ty_int, ty_str, ty_tup, ty_rol, fChain, lf_gtI, lf_ltI, lf_leI, lf_geI, addI, subI, List.getElem?_cons_zero, List.getElem?_cons_succ, List.set_cons_zero, List.set_cons_succ, fTup, fLst, tup0, lst0, tup1, lst1, tup2, lst2, tup3, lst3, tup4, lst4, tup5, lst5, tup6, lst6, tup7, lst7, tup8, lst8, tup9, lst9, tup10, lst10, tup11, lst11, tup12, lst12, fNeg, oSome, oNone, Bool.not_true, Bool.not_false, Bool.false_eq_true, if_true, if_false, ite_true, ite_false, lf_int, lf_lenT, lf_lenO, lf_truB, fM1, sSetIx2, sPar, sPar3, kb_NoneType_int, kb_NoneType_str, kb_NoneType_bool, kb_NoneType_tuple, kb_NoneType_list, kb_NoneType_dict, kb_bool_int, kb_bool_str, kb_bool_bool, kb_bool_tuple, kb_bool_list, kb_bool_dict, kb_int_int, kb_int_str, kb_int_bool, kb_int_tuple, kb_int_list, kb_int_dict, kb_str_int, kb_str_str, kb_str_bool, kb_str_tuple, kb_str_list, kb_str_dict, kb_tuple_int, kb_tuple_str, kb_tuple_bool, kb_tuple_tuple, kb_tuple_list, kb_tuple_dict, kb_list_int, kb_list_str, kb_list_bool, kb_list_tuple, kb_list_list, kb_list_dict, kb_dict_int, kb_dict_str, kb_dict_bool, kb_dict_tuple, kb_dict_list, kb_dict_dict, h1]
theorem bytes_number {bs : List Int} (h : ByteL bs) (h1 : 1 ≤ bs.length) (h2 : bs.length ≤ 8) : F_bytes_number [byD bs] m = .ok (.int (numOf bs)) m := by
  have c := check_ok (m := m) (is_bytes (m := m) h (k := 4000) (by omega))
  have on := octets_number (m := m) (bs := bs)
  have a1 : decide ((1 : Int) ≤ ((bs.map D.int).length : Int)) = true := decide_eq_true (by rw [List.length_map]; omega)
  have a2 : decide (((bs.map D.int).length : Int) ≤ (8 : Int)) = true := decide_eq_true (by rw [List.length_map]; omega)
  simp only [byD] at c on ⊢
  unfold F_bytes_number B_bytes_number
  simp only [fnD, startE, List.map_cons, List.map_nil, List.length_cons, List.length_nil, List.replicate, List.cons_append, List.nil_append, Nat.reduceAdd, Nat.reduceSub, Nat.zero_add, sSeq, sIf, sSet, sRet, sRetN, sPass, sExpr, sRaise, sBrk, sCnt, bd_ok, bd_ex, bd_bad, rs_ok, rs_ex, rs_bad, nx_ok, fVar, fC, f2, fCall, aCons, aNil, vAnd, vOr, vNot, fAnd, fOr, fNot, fTru, tr_non, tr_bl, tr_int, tr_tup, tr_rol, fBl, bl_b, fIf, fIsi, gIsi, isiB, ty_non, ty_bl, ty_int, ty_str, ty_tup, ty_rol, fChain, lf_gtI, lf_ltI, lf_leI, lf_geI, addI, subI, List.getElem?_cons_zero, List.getElem?_cons_succ, List.set_cons_zero, List.set_cons_succ, fTup, fLst, tup0, lst0, tup1, lst1, tup2, lst2, tup3, lst3, tup4, lst4, tup5, lst5, tup6, lst6, tup7, lst7, tup8, lst8, tup9, lst9, tup10, lst10, tup11, lst11, tup12, lst12, fNeg, oSome, oNone, Bool.not_true, Bool.not_false, Bool.false_eq_true, if_true, if_false, ite_true, ite_false, lf_int, lf_lenT, lf_lenO, lf_truB, fM1, sSetIx2, sPar, sPar3, kb_NoneType_int, kb_NoneType_str, kb_NoneType_bool, kb_NoneType_tuple, kb_NoneType_list, kb_NoneType_dict, kb_bool_int, kb_bool_str, kb_bool_bool, kb_bool_tuple, kb_bool_list, kb_bool_dict, kb_int_int, kb_int_str, kb_int_bool, kb_int_tuple, kb_int_list, kb_int_dict, kb_str_int, kb_str_str, kb_str_bool, kb_str_tuple, kb_str_list, kb_str_dict, kb_tuple_int, kb_tuple_str, kb_tuple_bool, kb_tuple_tuple, kb_tuple_list, kb_tuple_dict, kb_list_int, kb_list_str, kb_list_bool, kb_list_tuple, kb_list_list, kb_list_dict, kb_dict_int, kb_dict_str, kb_dict_bool, kb_dict_tuple, kb_dict_list, kb_dict_dict, c, a1, a2, on]
theorem bytes_number_bad (h : F_is_bytes [d, .int 4000] m = .ok (.bl false) m) : F_bytes_number [d] m = .ex ⟨"BadBytes", []⟩ m := by
  have c := check_bad h
  unfold F_bytes_number B_bytes_number
  simp only [fnD, startE, List.map_cons, List.map_nil, List.length_cons, List.length_nil, List.replicate, List.cons_append, List.nil_append, Nat.reduceAdd, Nat.reduceSub, Nat.zero_add, sSeq, sIf, sSet, sRet, sRetN, sPass, sExpr, sRaise, sBrk, sCnt, bd_ok, bd_ex, bd_bad, rs_ok, rs_ex, rs_bad, nx_ok, fVar, fC, f2, fCall, aCons, aNil, vAnd, vOr, vNot, fAnd, fOr, fNot, fTru, tr_non, tr_bl, tr_int, tr_tup, tr_rol, fBl, bl_b, fIf, fIsi, gIsi, isiB, ty_non, ty_bl, ty_int, ty_str, ty_tup, ty_rol, fChain, lf_gtI, lf_ltI, lf_leI, lf_geI, addI, subI, List.getElem?_cons_zero, List.getElem?_cons_succ, List.set_cons_zero, List.set_cons_succ, fTup, fLst, tup0, lst0, tup1, lst1, tup2, lst2, tup3, lst3, tup4, lst4, tup5, lst5, tup6, lst6, tup7, lst7, tup8, lst8, tup9, lst9, tup10, lst10, tup11, lst11, tup12, lst12, fNeg, oSome, oNone, Bool.not_true, Bool.not_false, Bool.false_eq_true, if_true, if_false, ite_true, ite_false, lf_int, lf_lenT, lf_lenO, lf_truB, fM1, sSetIx2, sPar, sPar3, kb_NoneType_int, kb_NoneType_str, kb_NoneType_bool, kb_NoneType_tuple, kb_NoneType_list, kb_NoneType_dict, kb_bool_int, kb_bool_str, kb_bool_bool, kb_bool_tuple, kb_bool_list, kb_bool_dict, kb_int_int, kb_int_str, kb_int_bool, kb_int_tuple, kb_int_list, kb_int_dict, kb_str_int, kb_str_str, kb_str_bool, kb_str_tuple, kb_str_list, kb_str_dict, kb_tuple_int, kb_tuple_str, kb_tuple_bool, kb_tuple_tuple, kb_tuple_list, kb_tuple_dict, kb_list_int, kb_list_str, kb_list_bool, kb_list_tuple, kb_list_list, kb_list_dict, kb_dict_int, kb_dict_str, kb_dict_bool, kb_dict_tuple, kb_dict_list, kb_dict_dict, c]
theorem bytes_number_none : F_bytes_number [.tup []] m = .ex ⟨"BadNumber", []⟩ m := by
  have c := check_ok (m := m) (is_bytes (m := m) (bs := []) (fun b h => by cases h) (k := 4000) (by decide))
  simp only [byD, List.map_nil] at c
  unfold F_bytes_number B_bytes_number
  simp only [fnD, startE, List.map_cons, List.map_nil, List.length_cons, List.length_nil, List.replicate, List.cons_append, List.nil_append, Nat.reduceAdd, Nat.reduceSub, Nat.zero_add, sSeq, sIf, sSet, sRet, sRetN, sPass, sExpr, sRaise, sBrk, sCnt, bd_ok, bd_ex, bd_bad, rs_ok, rs_ex, rs_bad, nx_ok, fVar, fC, f2, fCall, aCons, aNil, vAnd, vOr, vNot, fAnd, fOr, fNot, fTru, tr_non, tr_bl, tr_int, tr_tup, tr_rol, fBl, bl_b, fIf, fIsi, gIsi, isiB, ty_non, ty_bl, ty_int, ty_str, ty_tup, ty_rol, fChain, lf_gtI, lf_ltI, lf_leI, lf_geI, addI, subI, List.getElem?_cons_zero, List.getElem?_cons_succ, List.set_cons_zero, List.set_cons_succ, fTup, fLst, tup0, lst0, tup1, lst1, tup2, lst2, tup3, lst3, tup4, lst4, tup5, lst5, tup6, lst6, tup7, lst7, tup8, lst8, tup9, lst9, tup10, lst10, tup11, lst11, tup12, lst12, fNeg, oSome, oNone, Bool.not_true, Bool.not_false, Bool.false_eq_true, if_true, if_false, ite_true, ite_false, lf_int, lf_lenT, lf_lenO, lf_truB, fM1, sSetIx2, sPar, sPar3, kb_NoneType_int, kb_NoneType_str, kb_NoneType_bool, kb_NoneType_tuple, kb_NoneType_list, kb_NoneType_dict, kb_bool_int, kb_bool_str, kb_bool_bool, kb_bool_tuple, kb_bool_list, kb_bool_dict, kb_int_int, kb_int_str, kb_int_bool, kb_int_tuple, kb_int_list, kb_int_dict, kb_str_int, kb_str_str, kb_str_bool, kb_str_tuple, kb_str_list, kb_str_dict, kb_tuple_int, kb_tuple_str, kb_tuple_bool, kb_tuple_tuple, kb_tuple_list, kb_tuple_dict, kb_list_int, kb_list_str, kb_list_bool, kb_list_tuple, kb_list_list, kb_list_dict, kb_dict_int, kb_dict_str, kb_dict_bool, kb_dict_tuple, kb_dict_list, kb_dict_dict, c]
  rfl
theorem bytes_number_long {bs : List Int} (h : ByteL bs) (h1 : 9 ≤ bs.length) (h2 : bs.length ≤ 4000) : F_bytes_number [byD bs] m = .ex ⟨"BadNumber", []⟩ m := by
  have c := check_ok (m := m) (is_bytes (m := m) h (k := 4000) (by omega))
  have a1 : decide ((1 : Int) ≤ ((bs.map D.int).length : Int)) = true := decide_eq_true (by rw [List.length_map]; omega)
  have a2 : decide (((bs.map D.int).length : Int) ≤ (8 : Int)) = false := decide_eq_false (by rw [List.length_map]; omega)
  simp only [byD] at c ⊢
  unfold F_bytes_number B_bytes_number
  simp only [fnD, startE, List.map_cons, List.map_nil, List.length_cons, List.length_nil, List.replicate, List.cons_append, List.nil_append, Nat.reduceAdd, Nat.reduceSub, Nat.zero_add, sSeq, sIf, sSet, sRet, sRetN, sPass, sExpr, sRaise, sBrk, sCnt, bd_ok, bd_ex, bd_bad, rs_ok, rs_ex, rs_bad, nx_ok, fVar, fC, f2, fCall, aCons, aNil, vAnd, vOr, vNot, fAnd, fOr, fNot, fTru, tr_non, tr_bl, tr_int, tr_tup, tr_rol, fBl, bl_b, fIf, fIsi, gIsi, isiB, ty_non, ty_bl, ty_int, ty_str, ty_tup, ty_rol, fChain, lf_gtI, lf_ltI, lf_leI, lf_geI, addI, subI, List.getElem?_cons_zero, List.getElem?_cons_succ, List.set_cons_zero, List.set_cons_succ, fTup, fLst, tup0, lst0, tup1, lst1, tup2, lst2, tup3, lst3, tup4, lst4, tup5, lst5, tup6, lst6, tup7, lst7, tup8, lst8, tup9, lst9, tup10, lst10, tup11, lst11, tup12, lst12, fNeg, oSome, oNone, Bool.not_true, Bool.not_false, Bool.false_eq_true, if_true, if_false, ite_true, ite_false, lf_int, lf_lenT, lf_lenO, lf_truB, fM1, sSetIx2, sPar, sPar3, kb_NoneType_int, kb_NoneType_str, kb_NoneType_bool, kb_NoneType_tuple, kb_NoneType_list, kb_NoneType_dict, kb_bool_int, kb_bool_str, kb_bool_bool, kb_bool_tuple, kb_bool_list, kb_bool_dict, kb_int_int, kb_int_str, kb_int_bool, kb_int_tuple, kb_int_list, kb_int_dict, kb_str_int, kb_str_str, kb_str_bool, kb_str_tuple, kb_str_list, kb_str_dict, kb_tuple_int, kb_tuple_str, kb_tuple_bool, kb_tuple_tuple, kb_tuple_list, kb_tuple_dict, kb_list_int, kb_list_str, kb_list_bool, kb_list_tuple, kb_list_list, kb_list_dict, kb_dict_int, kb_dict_str, kb_dict_bool, kb_dict_tuple, kb_dict_list, kb_dict_dict, c, a1, a2]
theorem check_run {bs : List Int} (h : ByteL bs) (h2 : bs.length ≤ 250) : ∃ g, F_check [byD bs] m = .ok (.tup [.int (chk1 bs), .int (chk2 bs)]) (m ++ g) := by
  have c := check_ok (m := m) (is_bytes (m := m) h (k := 250) (by omega))
  obtain ⟨g, e⟩ := sums_of (m := m) (bs := bs) (by omega)
  refine ⟨g, ?_⟩
  simp only [byD] at c e ⊢
  unfold F_check B_check
  simp only [fnD, startE, List.map_cons, List.map_nil, List.length_cons, List.length_nil, List.replicate, List.cons_append, List.nil_append, Nat.reduceAdd, Nat.reduceSub, Nat.zero_add, sSeq, sIf, sSet, sRet, sRetN, sPass, sExpr, sRaise, sBrk, sCnt, bd_ok, bd_ex, bd_bad, rs_ok, rs_ex, rs_bad, nx_ok, fVar, fC, f2, fCall, aCons, aNil, vAnd, vOr, vNot, fAnd, fOr, fNot, fTru, tr_non, tr_bl, tr_int, tr_tup, tr_rol, fBl, bl_b, fIf, fIsi, gIsi, isiB, ty_non, ty_bl, ty_int, ty_str, ty_tup, ty_rol, fChain, lf_gtI, lf_ltI, lf_leI, lf_geI, addI, subI, List.getElem?_cons_zero, List.getElem?_cons_succ, List.set_cons_zero, List.set_cons_succ, fTup, fLst, tup0, lst0, tup1, lst1, tup2, lst2, tup3, lst3, tup4, lst4, tup5, lst5, tup6, lst6, tup7, lst7, tup8, lst8, tup9, lst9, tup10, lst10, tup11, lst11, tup12, lst12, fNeg, oSome, oNone, Bool.not_true, Bool.not_false, Bool.false_eq_true, if_true, if_false, ite_true, ite_false, lf_int, lf_lenT, lf_lenO, lf_truB, fM1, sSetIx2, sPar, sPar3, kb_NoneType_int, kb_NoneType_str, kb_NoneType_bool, kb_NoneType_tuple, kb_NoneType_list, kb_NoneType_dict, kb_bool_int, kb_bool_str, kb_bool_bool, kb_bool_tuple, kb_bool_list, kb_bool_dict, kb_int_int, kb_int_str, kb_int_bool, kb_int_tuple, kb_int_list, kb_int_dict, kb_str_int, kb_str_str, kb_str_bool, kb_str_tuple, kb_str_list, kb_str_dict, kb_tuple_int, kb_tuple_str, kb_tuple_bool, kb_tuple_tuple, kb_tuple_list, kb_tuple_dict, kb_list_int, kb_list_str, kb_list_bool, kb_list_tuple, kb_list_list, kb_list_dict, kb_dict_int, kb_dict_str, kb_dict_bool, kb_dict_tuple, kb_dict_list, kb_dict_dict, c, e]
theorem check_run_bad (h : F_is_bytes [d, .int 250] m = .ok (.bl false) m) : F_check [d] m = .ex ⟨"BadBytes", []⟩ m := by
  have c := check_bad h
  unfold F_check B_check
  simp only [fnD, startE, List.map_cons, List.map_nil, List.length_cons, List.length_nil, List.replicate, List.cons_append, List.nil_append, Nat.reduceAdd, Nat.reduceSub, Nat.zero_add, sSeq, sIf, sSet, sRet, sRetN, sPass, sExpr, sRaise, sBrk, sCnt, bd_ok, bd_ex, bd_bad, rs_ok, rs_ex, rs_bad, nx_ok, fVar, fC, f2, fCall, aCons, aNil, vAnd, vOr, vNot, fAnd, fOr, fNot, fTru, tr_non, tr_bl, tr_int, tr_tup, tr_rol, fBl, bl_b, fIf, fIsi, gIsi, isiB, ty_non, ty_bl, ty_int, ty_str, ty_tup, ty_rol, fChain, lf_gtI, lf_ltI, lf_leI, lf_geI, addI, subI, List.getElem?_cons_zero, List.getElem?_cons_succ, List.set_cons_zero, List.set_cons_succ, fTup, fLst, tup0, lst0, tup1, lst1, tup2, lst2, tup3, lst3, tup4, lst4, tup5, lst5, tup6, lst6, tup7, lst7, tup8, lst8, tup9, lst9, tup10, lst10, tup11, lst11, tup12, lst12, fNeg, oSome, oNone, Bool.not_true, Bool.not_false, Bool.false_eq_true, if_true, if_false, ite_true, ite_false, lf_int, lf_lenT, lf_lenO, lf_truB, fM1, sSetIx2, sPar, sPar3, kb_NoneType_int, kb_NoneType_str, kb_NoneType_bool, kb_NoneType_tuple, kb_NoneType_list, kb_NoneType_dict, kb_bool_int, kb_bool_str, kb_bool_bool, kb_bool_tuple, kb_bool_list, kb_bool_dict, kb_int_int, kb_int_str, kb_int_bool, kb_int_tuple, kb_int_list, kb_int_dict, kb_str_int, kb_str_str, kb_str_bool, kb_str_tuple, kb_str_list, kb_str_dict, kb_tuple_int, kb_tuple_str, kb_tuple_bool, kb_tuple_tuple, kb_tuple_list, kb_tuple_dict, kb_list_int, kb_list_str, kb_list_bool, kb_list_tuple, kb_list_list, kb_list_dict, kb_dict_int, kb_dict_str, kb_dict_bool, kb_dict_tuple, kb_dict_list, kb_dict_dict, c]
theorem with_check {bs : List Int} (h : ByteL bs) (h2 : bs.length ≤ 250) : ∃ g, F_with_check [byD bs] m = .ok (byD (wchk bs)) (m ++ g) := by
  have c := check_ok (m := m) (is_bytes (m := m) h (k := 250) (by omega))
  obtain ⟨g, e⟩ := octets_with_check (m := m) (bs := bs) (by omega)
  refine ⟨g, ?_⟩
  simp only [byD] at c e ⊢
  unfold F_with_check B_with_check
  simp only [fnD, startE, List.map_cons, List.map_nil, List.length_cons, List.length_nil, List.replicate, List.cons_append, List.nil_append, Nat.reduceAdd, Nat.reduceSub, Nat.zero_add, sSeq, sIf, sSet, sRet, sRetN, sPass, sExpr, sRaise, sBrk, sCnt, bd_ok, bd_ex, bd_bad, rs_ok, rs_ex, rs_bad, nx_ok, fVar, fC, f2, fCall, aCons, aNil, vAnd, vOr, vNot, fAnd, fOr, fNot, fTru, tr_non, tr_bl, tr_int, tr_tup, tr_rol, fBl, bl_b, fIf, fIsi, gIsi, isiB, ty_non, ty_bl, ty_int, ty_str, ty_tup, ty_rol, fChain, lf_gtI, lf_ltI, lf_leI, lf_geI, addI, subI, List.getElem?_cons_zero, List.getElem?_cons_succ, List.set_cons_zero, List.set_cons_succ, fTup, fLst, tup0, lst0, tup1, lst1, tup2, lst2, tup3, lst3, tup4, lst4, tup5, lst5, tup6, lst6, tup7, lst7, tup8, lst8, tup9, lst9, tup10, lst10, tup11, lst11, tup12, lst12, fNeg, oSome, oNone, Bool.not_true, Bool.not_false, Bool.false_eq_true, if_true, if_false, ite_true, ite_false, lf_int, lf_lenT, lf_lenO, lf_truB, fM1, sSetIx2, sPar, sPar3, kb_NoneType_int, kb_NoneType_str, kb_NoneType_bool, kb_NoneType_tuple, kb_NoneType_list, kb_NoneType_dict, kb_bool_int, kb_bool_str, kb_bool_bool, kb_bool_tuple, kb_bool_list, kb_bool_dict, kb_int_int, kb_int_str, kb_int_bool, kb_int_tuple, kb_int_list, kb_int_dict, kb_str_int, kb_str_str, kb_str_bool, kb_str_tuple, kb_str_list, kb_str_dict, kb_tuple_int, kb_tuple_str, kb_tuple_bool, kb_tuple_tuple, kb_tuple_list, kb_tuple_dict, kb_list_int, kb_list_str, kb_list_bool, kb_list_tuple, kb_list_list, kb_list_dict, kb_dict_int, kb_dict_str, kb_dict_bool, kb_dict_tuple, kb_dict_list, kb_dict_dict, c, e]
theorem with_check_bad (h : F_is_bytes [d, .int 250] m = .ok (.bl false) m) : F_with_check [d] m = .ex ⟨"BadBytes", []⟩ m := by
  have c := check_bad h
  unfold F_with_check B_with_check
  simp only [fnD, startE, List.map_cons, List.map_nil, List.length_cons, List.length_nil, List.replicate, List.cons_append, List.nil_append, Nat.reduceAdd, Nat.reduceSub, Nat.zero_add, sSeq, sIf, sSet, sRet, sRetN, sPass, sExpr, sRaise, sBrk, sCnt, bd_ok, bd_ex, bd_bad, rs_ok, rs_ex, rs_bad, nx_ok, fVar, fC, f2, fCall, aCons, aNil, vAnd, vOr, vNot, fAnd, fOr, fNot, fTru, tr_non, tr_bl, tr_int, tr_tup, tr_rol, fBl, bl_b, fIf, fIsi, gIsi, isiB, ty_non, ty_bl, ty_int, ty_str, ty_tup, ty_rol, fChain, lf_gtI, lf_ltI, lf_leI, lf_geI, addI, subI, List.getElem?_cons_zero, List.getElem?_cons_succ, List.set_cons_zero, List.set_cons_succ, fTup, fLst, tup0, lst0, tup1, lst1, tup2, lst2, tup3, lst3, tup4, lst4, tup5, lst5, tup6, lst6, tup7, lst7, tup8, lst8, tup9, lst9, tup10, lst10, tup11, lst11, tup12, lst12, fNeg, oSome, oNone, Bool.not_true, Bool.not_false, Bool.false_eq_true, if_true, if_false, ite_true, ite_false, lf_int, lf_lenT, lf_lenO, lf_truB, fM1, sSetIx2, sPar, sPar3, kb_NoneType_int, kb_NoneType_str, kb_NoneType_bool, kb_NoneType_tuple, kb_NoneType_list, kb_NoneType_dict, kb_bool_int, kb_bool_str, kb_bool_bool, kb_bool_tuple, kb_bool_list, kb_bool_dict, kb_int_int, kb_int_str, kb_int_bool, kb_int_tuple, kb_int_list, kb_int_dict, kb_str_int, kb_str_str, kb_str_bool, kb_str_tuple, kb_str_list, kb_str_dict, kb_tuple_int, kb_tuple_str, kb_tuple_bool, kb_tuple_tuple, kb_tuple_list, kb_tuple_dict, kb_list_int, kb_list_str, kb_list_bool, kb_list_tuple, kb_list_list, kb_list_dict, kb_dict_int, kb_dict_str, kb_dict_bool, kb_dict_tuple, kb_dict_list, kb_dict_dict, c]
theorem cut_neg {xs : List D} {k : Nat} (hk : 0 < k) : cutD xs none (some (-(k : Int))) = xs.take (xs.length - k) := by
  unfold cutD
  have a : HT.sIx xs.length 0 none = 0 := rfl
  have b : HT.sIx xs.length xs.length (some (-(k : Int))) = xs.length - k := by
    show (if (-(k : Int)) < 0 then (-(k : Int) + (xs.length : Int)).toNat else min (-(k : Int)).toNat xs.length) = _
    rw [if_pos (by omega)]
    omega
  rw [a, b, List.drop_zero, Nat.sub_zero]
theorem cut4 {xs : List D} : cutD xs none (some (-4)) = xs.take (xs.length - 4) := cut_neg (k := 4) (by decide)
def unchk (ws : List Int) : Option (List Int) := if wchk (ws.take (ws.length - 4)) = ws then some (ws.take (ws.length - 4)) else none
def optBy : Option (List Int) → D
  | some bs => byD bs
  | none => .non
theorem without_check {ws : List Int} (h : ByteL ws) (h1 : 4 ≤ ws.length) (h2 : ws.length ≤ 254) : ∃ g, F_without_check [byD ws] m = .ok (optBy (unchk ws)) (m ++ g) := by
  have c := check_ok (m := m) (is_bytes (m := m) h (k := 254) (by omega))
  obtain ⟨g, e⟩ := octets_with_check (m := m) (bs := ws.take (ws.length - 4)) (by rw [List.length_take]; omega)
  refine ⟨g, ?_⟩
  have a1 : decide (((ws.map D.int).length : Int) < (4 : Int)) = false := decide_eq_false (by rw [List.length_map]; omega)
  have cu : cutD (ws.map D.int) none (some (-4)) = (ws.take (ws.length - 4)).map D.int := by rw [cut4, List.length_map, List.map_take]
  have eq := eqBy (m := m ++ g) (xs := wchk (ws.take (ws.length - 4))) (ys := ws)
  have sl : gSl (.tup (ws.map D.int)) none (some (-4)) m = .ok (.tup ((ws.take (ws.length - 4)).map D.int)) m := by rw [← cu]; rfl
  have a254 : (250 : Int) + 4 = 254 := by decide
  simp only [byD] at c e eq ⊢
  unfold F_without_check B_without_check
  simp only [fnD, startE, List.map_cons, List.map_nil, List.length_cons, List.length_nil, List.replicate, List.cons_append, List.nil_append, Nat.reduceAdd, Nat.reduceSub, Nat.zero_add, sSeq, sIf, sSet, sRet, sRetN, sPass, sExpr, sRaise, sBrk, sCnt, bd_ok, bd_ex, bd_bad, rs_ok, rs_ex, rs_bad, nx_ok, fVar, fC, f2, fCall, aCons, aNil, vAnd, vOr, vNot, fAnd, fOr, fNot, fTru, tr_non, tr_bl, tr_int, tr_tup, tr_rol, fBl, bl_b, fIf, fIsi, gIsi, isiB, ty_non, ty_bl, ty_int, ty_str, ty_tup, ty_rol, fChain, lf_gtI, lf_ltI, lf_leI, lf_geI, addI, subI, List.getElem?_cons_zero, List.getElem?_cons_succ, List.set_cons_zero, List.set_cons_succ, fTup, fLst, tup0, lst0, tup1, lst1, tup2, lst2, tup3, lst3, tup4, lst4, tup5, lst5, tup6, lst6, tup7, lst7, tup8, lst8, tup9, lst9, tup10, lst10, tup11, lst11, tup12, lst12, fNeg, oSome, oNone, Bool.not_true, Bool.not_false, Bool.false_eq_true, if_true, if_false, ite_true, ite_false, lf_int, lf_lenT, lf_lenO, lf_truB, fM1, sSetIx2, sPar, sPar3, kb_NoneType_int, kb_NoneType_str, kb_NoneType_bool, kb_NoneType_tuple, kb_NoneType_list, kb_NoneType_dict, kb_bool_int, kb_bool_str, kb_bool_bool, kb_bool_tuple, kb_bool_list, kb_bool_dict, kb_int_int, kb_int_str, kb_int_bool, kb_int_tuple, kb_int_list, kb_int_dict, kb_str_int, kb_str_str, kb_str_bool, kb_str_tuple, kb_str_list, kb_str_dict, kb_tuple_int, kb_tuple_str, kb_tuple_bool, kb_tuple_tuple, kb_tuple_list, kb_tuple_dict, kb_list_int, kb_list_str, kb_list_bool, kb_list_tuple, kb_list_list, kb_list_dict, kb_dict_int, kb_dict_str, kb_dict_bool, kb_dict_tuple, kb_dict_list, kb_dict_dict, a254, c, a1, fSl, sl, e, eq]
  unfold unchk
  by_cases q : wchk (ws.take (ws.length - 4)) = ws
  · rw [if_pos q, decide_eq_true q]
    simp only [fnD, startE, List.map_cons, List.map_nil, List.length_cons, List.length_nil, List.replicate, List.cons_append, List.nil_append, Nat.reduceAdd, Nat.reduceSub, Nat.zero_add, sSeq, sIf, sSet, sRet, sRetN, sPass, sExpr, sRaise, sBrk, sCnt, bd_ok, bd_ex, bd_bad, rs_ok, rs_ex, rs_bad, nx_ok, fVar, fC, f2, fCall, aCons, aNil, vAnd, vOr, vNot, fAnd, fOr, fNot, fTru, tr_non, tr_bl, tr_int, tr_tup, tr_rol, fBl, bl_b, fIf, fIsi, gIsi, isiB, ty_non, ty_bl, ty_int, ty_str, ty_tup, ty_rol, fChain, lf_gtI, lf_ltI, lf_leI, lf_geI, addI, subI, List.getElem?_cons_zero, List.getElem?_cons_succ, List.set_cons_zero, List.set_cons_succ, fTup, fLst, tup0, lst0, tup1, lst1, tup2, lst2, tup3, lst3, tup4, lst4, tup5, lst5, tup6, lst6, tup7, lst7, tup8, lst8, tup9, lst9, tup10, lst10, tup11, lst11, tup12, lst12, fNeg, oSome, oNone, Bool.not_true, Bool.not_false, Bool.false_eq_true, if_true, if_false, ite_true, ite_false, lf_int, lf_lenT, lf_lenO, lf_truB, fM1, sSetIx2, sPar, sPar3, kb_NoneType_int, kb_NoneType_str, kb_NoneType_bool, kb_NoneType_tuple, kb_NoneType_list, kb_NoneType_dict, kb_bool_int, kb_bool_str, kb_bool_bool, kb_bool_tuple, kb_bool_list, kb_bool_dict, kb_int_int, kb_int_str, kb_int_bool, kb_int_tuple, kb_int_list, kb_int_dict, kb_str_int, kb_str_str, kb_str_bool, kb_str_tuple, kb_str_list, kb_str_dict, kb_tuple_int, kb_tuple_str, kb_tuple_bool, kb_tuple_tuple, kb_tuple_list, kb_tuple_dict, kb_list_int, kb_list_str, kb_list_bool, kb_list_tuple, kb_list_list, kb_list_dict, kb_dict_int, kb_dict_str, kb_dict_bool, kb_dict_tuple, kb_dict_list, kb_dict_dict, optBy]
  · rw [if_neg q, decide_eq_false q]
    simp only [fnD, startE, List.map_cons, List.map_nil, List.length_cons, List.length_nil, List.replicate, List.cons_append, List.nil_append, Nat.reduceAdd, Nat.reduceSub, Nat.zero_add, sSeq, sIf, sSet, sRet, sRetN, sPass, sExpr, sRaise, sBrk, sCnt, bd_ok, bd_ex, bd_bad, rs_ok, rs_ex, rs_bad, nx_ok, fVar, fC, f2, fCall, aCons, aNil, vAnd, vOr, vNot, fAnd, fOr, fNot, fTru, tr_non, tr_bl, tr_int, tr_tup, tr_rol, fBl, bl_b, fIf, fIsi, gIsi, isiB, ty_non, ty_bl, ty_int, ty_str, ty_tup, ty_rol, fChain, lf_gtI, lf_ltI, lf_leI, lf_geI, addI, subI, List.getElem?_cons_zero, List.getElem?_cons_succ, List.set_cons_zero, List.set_cons_succ, fTup, fLst, tup0, lst0, tup1, lst1, tup2, lst2, tup3, lst3, tup4, lst4, tup5, lst5, tup6, lst6, tup7, lst7, tup8, lst8, tup9, lst9, tup10, lst10, tup11, lst11, tup12, lst12, fNeg, oSome, oNone, Bool.not_true, Bool.not_false, Bool.false_eq_true, if_true, if_false, ite_true, ite_false, lf_int, lf_lenT, lf_lenO, lf_truB, fM1, sSetIx2, sPar, sPar3, kb_NoneType_int, kb_NoneType_str, kb_NoneType_bool, kb_NoneType_tuple, kb_NoneType_list, kb_NoneType_dict, kb_bool_int, kb_bool_str, kb_bool_bool, kb_bool_tuple, kb_bool_list, kb_bool_dict, kb_int_int, kb_int_str, kb_int_bool, kb_int_tuple, kb_int_list, kb_int_dict, kb_str_int, kb_str_str, kb_str_bool, kb_str_tuple, kb_str_list, kb_str_dict, kb_tuple_int, kb_tuple_str, kb_tuple_bool, kb_tuple_tuple, kb_tuple_list, kb_tuple_dict, kb_list_int, kb_list_str, kb_list_bool, kb_list_tuple, kb_list_list, kb_list_dict, kb_dict_int, kb_dict_str, kb_dict_bool, kb_dict_tuple, kb_dict_list, kb_dict_dict, optBy]
theorem without_check_short {ws : List Int} (h : ByteL ws) (h1 : ws.length < 4) : F_without_check [byD ws] m = .ok .non m := by
  have c := check_ok (m := m) (is_bytes (m := m) h (k := 254) (by omega))
  have a1 : decide (((ws.map D.int).length : Int) < (4 : Int)) = true := decide_eq_true (by rw [List.length_map]; omega)
  have a254 : (250 : Int) + 4 = 254 := by decide
  simp only [byD] at c ⊢
  unfold F_without_check B_without_check
  simp only [fnD, startE, List.map_cons, List.map_nil, List.length_cons, List.length_nil, List.replicate, List.cons_append, List.nil_append, Nat.reduceAdd, Nat.reduceSub, Nat.zero_add, sSeq, sIf, sSet, sRet, sRetN, sPass, sExpr, sRaise, sBrk, sCnt, bd_ok, bd_ex, bd_bad, rs_ok, rs_ex, rs_bad, nx_ok, fVar, fC, f2, fCall, aCons, aNil, vAnd, vOr, vNot, fAnd, fOr, fNot, fTru, tr_non, tr_bl, tr_int, tr_tup, tr_rol, fBl, bl_b, fIf, fIsi, gIsi, isiB, ty_non, ty_bl, ty_int, ty_str, ty_tup, ty_rol, fChain, lf_gtI, lf_ltI, lf_leI, lf_geI, addI, subI, List.getElem?_cons_zero, List.getElem?_cons_succ, List.set_cons_zero, List.set_cons_succ, fTup, fLst, tup0, lst0, tup1, lst1, tup2, lst2, tup3, lst3, tup4, lst4, tup5, lst5, tup6, lst6, tup7, lst7, tup8, lst8, tup9, lst9, tup10, lst10, tup11, lst11, tup12, lst12, fNeg, oSome, oNone, Bool.not_true, Bool.not_false, Bool.false_eq_true, if_true, if_false, ite_true, ite_false, lf_int, lf_lenT, lf_lenO, lf_truB, fM1, sSetIx2, sPar, sPar3, kb_NoneType_int, kb_NoneType_str, kb_NoneType_bool, kb_NoneType_tuple, kb_NoneType_list, kb_NoneType_dict, kb_bool_int, kb_bool_str, kb_bool_bool, kb_bool_tuple, kb_bool_list, kb_bool_dict, kb_int_int, kb_int_str, kb_int_bool, kb_int_tuple, kb_int_list, kb_int_dict, kb_str_int, kb_str_str, kb_str_bool, kb_str_tuple, kb_str_list, kb_str_dict, kb_tuple_int, kb_tuple_str, kb_tuple_bool, kb_tuple_tuple, kb_tuple_list, kb_tuple_dict, kb_list_int, kb_list_str, kb_list_bool, kb_list_tuple, kb_list_list, kb_list_dict, kb_dict_int, kb_dict_str, kb_dict_bool, kb_dict_tuple, kb_dict_list, kb_dict_dict, a254, c, a1]
theorem without_check_bad (h : F_is_bytes [d, .int 254] m = .ok (.bl false) m) : F_without_check [d] m = .ex ⟨"BadBytes", []⟩ m := by
  have c := check_bad h
  have a254 : (250 : Int) + 4 = 254 := by decide
  unfold F_without_check B_without_check
  simp only [fnD, startE, List.map_cons, List.map_nil, List.length_cons, List.length_nil, List.replicate, List.cons_append, List.nil_append, Nat.reduceAdd, Nat.reduceSub, Nat.zero_add, sSeq, sIf, sSet, sRet, sRetN, sPass, sExpr, sRaise, sBrk, sCnt, bd_ok, bd_ex, bd_bad, rs_ok, rs_ex, rs_bad, nx_ok, fVar, fC, f2, fCall, aCons, aNil, vAnd, vOr, vNot, fAnd, fOr, fNot, fTru, tr_non, tr_bl, tr_int, tr_tup, tr_rol, fBl, bl_b, fIf, fIsi, gIsi, isiB, ty_non, ty_bl, ty_int, ty_str, ty_tup, ty_rol, fChain, lf_gtI, lf_ltI, lf_leI, lf_geI, addI, subI, List.getElem?_cons_zero, List.getElem?_cons_succ, List.set_cons_zero, List.set_cons_succ, fTup, fLst, tup0, lst0, tup1, lst1, tup2, lst2, tup3, lst3, tup4, lst4, tup5, lst5, tup6, lst6, tup7, lst7, tup8, lst8, tup9, lst9, tup10, lst10, tup11, lst11, tup12, lst12, fNeg, oSome, oNone, Bool.not_true, Bool.not_false, Bool.false_eq_true, if_true, if_false, ite_true, ite_false, lf_int, lf_lenT, lf_lenO, lf_truB, fM1, sSetIx2, sPar, sPar3, kb_NoneType_int, kb_NoneType_str, kb_NoneType_bool, kb_NoneType_tuple, kb_NoneType_list, kb_NoneType_dict, kb_bool_int, kb_bool_str, kb_bool_bool, kb_bool_tuple, kb_bool_list, kb_bool_dict, kb_int_int, kb_int_str, kb_int_bool, kb_int_tuple, kb_int_list, kb_int_dict, kb_str_int, kb_str_str, kb_str_bool, kb_str_tuple, kb_str_list, kb_str_dict, kb_tuple_int, kb_tuple_str, kb_tuple_bool, kb_tuple_tuple, kb_tuple_list, kb_tuple_dict, kb_list_int, kb_list_str, kb_list_bool, kb_list_tuple, kb_list_list, kb_list_dict, kb_dict_int, kb_dict_str, kb_dict_bool, kb_dict_tuple, kb_dict_list, kb_dict_dict, a254, c]
theorem wchk_len (bs : List Int) : (wchk bs).length = bs.length + 4 := by
  unfold wchk
  rw [List.length_append, List.length_append, octs_len, octs_len]
theorem unchk_wchk (bs : List Int) : unchk (wchk bs) = some bs := by
  have e : (wchk bs).take ((wchk bs).length - 4) = bs := by
    rw [wchk_len, Nat.add_sub_cancel]
    unfold wchk
    rw [List.take_left]
  unfold unchk
  rw [e, if_pos rfl]
theorem wchk_byte {bs : List Int} (h : ByteL bs) : ByteL (wchk bs) := fun b hb => by
  unfold wchk at hb
  rcases List.mem_append.mp hb with hb | hb
  · exact h b hb
  · rcases List.mem_append.mp hb with hb | hb
    · exact octs_byte _ _ b hb
    · exact octs_byte _ _ b hb
end
end Pm
end
section
set_option Elab.async false
set_option linter.all false
set_option maxRecDepth 100000
set_option maxHeartbeats 4000000
open PySem L2 Mn Pk
namespace Pm
section
variable {m : Mem} {n : Nat} {d x : D} {o : Mn.Obj} {r : Mem}
/-! ### texts -/
abbrev SG : Str := "abcdefghijklmnopqrstuvwxyzABCDEFGHIJKLMNOPQRSTUVWXYZ0123456789 .,:;=>/-+_()!?"
def Signs (s : Str) : Prop := ∀ c ∈ TL.tl s, c ∈ TL.tl SG
theorem sg_small : ∀ c ∈ TL.tl SG, c ≤ 122 := by
  have h : (TL.tl SG).all (fun c => decide (c ≤ 122)) = true := by decide +kernel
  exact fun c hc => of_decide_eq_true (List.all_eq_true.mp h c hc)
theorem strOk_iff {s : Str} : PyData.strOk s = true ↔ ∀ c ∈ TL.tl s, c < 1114112 := by
  unfold PyData.strOk
  rw [Array.all_eq_true_iff_forall_mem]
  constructor
  · intro h c hc
    exact of_decide_eq_true (h c (by simpa using hc))
  · intro h c hc
    exact decide_eq_true (h c (by simpa using hc))
theorem Signs.ok {s : Str} (h : Signs s) : PyData.strOk s = true := strOk_iff.mpr fun c hc => by
  have := sg_small c (h c hc)
  omega
theorem strOk_strip {x y : Str} (h : PyData.strOk x = true) : PyData.strOk (Txt.stripChars x y) = true := by
  unfold Txt.stripChars Txt.stripBy
  split
  · exact h
  · refine strOk_iff.mpr fun c hc => strOk_iff.mp h c ?_
    unfold stripped at hc
    rw [TL.tl_strSub] at hc
    exact List.mem_of_mem_drop (List.mem_of_mem_take hc)
theorem has_only {s t : Str} (hl : s.length ≤ 16777216) (h : PyData.strOk s = true) : F_has_only [.str s, .str t] m = .ok (.bl (decide (Txt.stripChars s t = ""))) m := by
  have a := lf_strip (m := m) (s := s) (t := t) hl
  have b := eqS (m := m) (s := Txt.stripChars s t) (t := "") (strOk_strip h) (by decide +kernel)
  unfold F_has_only B_has_only
  simp only [fnD, startE, List.map_cons, List.map_nil, List.length_cons, List.length_nil, List.replicate, List.cons_append, List.nil_append, Nat.reduceAdd, Nat.reduceSub, Nat.zero_add, sSeq, sIf, sSet, sRet, sRetN, sPass, sExpr, sRaise, sBrk, sCnt, bd_ok, bd_ex, bd_bad, rs_ok, rs_ex, rs_bad, nx_ok, fVar, fC, f2, fCall, aCons, aNil, vAnd, vOr, vNot, fAnd, fOr, fNot, fTru, tr_non, tr_bl, tr_int, tr_tup, tr_rol, fBl, bl_b, fIf, fIsi, gIsi, isiB, ty_non, ty_bl, ty_int, ty_str, ty_tup, ty_rol, fChain, lf_gtI, lf_ltI, lf_leI, lf_geI, addI, subI, List.getElem?_cons_zero, List.getElem?_cons_succ, List.set_cons_zero, List.set_cons_succ, fTup, fLst, tup0, lst0, tup1, lst1, tup2, lst2, tup3, lst3, tup4, lst4, tup5, lst5, tup6, lst6, tup7, lst7, tup8, lst8, tup9, lst9, tup10, lst10, tup11, lst11, tup12, lst12, fNeg, oSome, oNone, Bool.not_true, Bool.not_false, Bool.false_eq_true, if_true, if_false, ite_true, ite_false, lf_int, lf_lenT, lf_lenO, lf_truB, fM1, sSetIx2, sPar, sPar3, kb_NoneType_int, kb_NoneType_str, kb_NoneType_bool, kb_NoneType_tuple, kb_NoneType_list, kb_NoneType_dict, kb_bool_int, kb_bool_str, kb_bool_bool, kb_bool_tuple, kb_bool_list, kb_bool_dict, kb_int_int, kb_int_str, kb_int_bool, kb_int_tuple, kb_int_list, kb_int_dict, kb_str_int, kb_str_str, kb_str_bool, kb_str_tuple, kb_str_list, kb_str_dict, kb_tuple_int, kb_tuple_str, kb_tuple_bool, kb_tuple_tuple, kb_tuple_list, kb_tuple_dict, kb_list_int, kb_list_str, kb_list_bool, kb_list_tuple, kb_list_list, kb_list_dict, kb_dict_int, kb_dict_str, kb_dict_bool, kb_dict_tuple, kb_dict_list, kb_dict_dict, a, b]
theorem lenS {s : Str} (h : s.length ≤ 16777216) : gLen [.str s] m = .ok (.int s.length) m := lf_lenS h
theorem is_contents {s : Str} (h : Signs s) (hl : s.length ≤ 2000) : F_is_contents [.str s] m = .ok (.bl true) m := by
  have a := lenS (m := m) (s := s) (by omega)
  have b := has_only (m := m) (s := s) (t := SG) (by omega) h.ok
  rw [decide_eq_true (strip_all h)] at b
  have c : decide ((s.length : Int) ≤ 2000) = true := decide_eq_true (by omega)
  unfold F_is_contents B_is_contents
  simp only [fnD, startE, List.map_cons, List.map_nil, List.length_cons, List.length_nil, List.replicate, List.cons_append, List.nil_append, Nat.reduceAdd, Nat.reduceSub, Nat.zero_add, sSeq, sIf, sSet, sRet, sRetN, sPass, sExpr, sRaise, sBrk, sCnt, bd_ok, bd_ex, bd_bad, rs_ok, rs_ex, rs_bad, nx_ok, fVar, fC, f2, fCall, aCons, aNil, vAnd, vOr, vNot, fAnd, fOr, fNot, fTru, tr_non, tr_bl, tr_int, tr_tup, tr_rol, fBl, bl_b, fIf, fIsi, gIsi, isiB, ty_non, ty_bl, ty_int, ty_str, ty_tup, ty_rol, fChain, lf_gtI, lf_ltI, lf_leI, lf_geI, addI, subI, List.getElem?_cons_zero, List.getElem?_cons_succ, List.set_cons_zero, List.set_cons_succ, fTup, fLst, tup0, lst0, tup1, lst1, tup2, lst2, tup3, lst3, tup4, lst4, tup5, lst5, tup6, lst6, tup7, lst7, tup8, lst8, tup9, lst9, tup10, lst10, tup11, lst11, tup12, lst12, fNeg, oSome, oNone, Bool.not_true, Bool.not_false, Bool.false_eq_true, if_true, if_false, ite_true, ite_false, lf_int, lf_lenT, lf_lenO, lf_truB, fM1, sSetIx2, sPar, sPar3, kb_NoneType_int, kb_NoneType_str, kb_NoneType_bool, kb_NoneType_tuple, kb_NoneType_list, kb_NoneType_dict, kb_bool_int, kb_bool_str, kb_bool_bool, kb_bool_tuple, kb_bool_list, kb_bool_dict, kb_int_int, kb_int_str, kb_int_bool, kb_int_tuple, kb_int_list, kb_int_dict, kb_str_int, kb_str_str, kb_str_bool, kb_str_tuple, kb_str_list, kb_str_dict, kb_tuple_int, kb_tuple_str, kb_tuple_bool, kb_tuple_tuple, kb_tuple_list, kb_tuple_dict, kb_list_int, kb_list_str, kb_list_bool, kb_list_tuple, kb_list_list, kb_list_dict, kb_dict_int, kb_dict_str, kb_dict_bool, kb_dict_tuple, kb_dict_list, kb_dict_dict, a, c, b]
theorem is_contents_not (h : gIsi ["str"] d m = .ok (.bl false) m) : F_is_contents [d] m = .ok (.bl false) m := by
  unfold F_is_contents B_is_contents fIsi
  simp only [fnD, startE, List.map_cons, List.map_nil, List.length_cons, List.length_nil, List.replicate, Nat.reduceAdd, Nat.reduceSub, List.append_nil, sRet, vAnd, fVar, List.getElem?_cons_zero, Res.bind, h, truD, resS]
theorem is_contents_long {s : Str} (h : 2000 < s.length) (hl : s.length ≤ 16777216) : F_is_contents [.str s] m = .ok (.bl false) m := by
  have a := lenS (m := m) (s := s) hl
  have c : decide ((s.length : Int) ≤ 2000) = false := decide_eq_false (by omega)
  unfold F_is_contents B_is_contents
  simp only [fnD, startE, List.map_cons, List.map_nil, List.length_cons, List.length_nil, List.replicate, List.cons_append, List.nil_append, Nat.reduceAdd, Nat.reduceSub, Nat.zero_add, sSeq, sIf, sSet, sRet, sRetN, sPass, sExpr, sRaise, sBrk, sCnt, bd_ok, bd_ex, bd_bad, rs_ok, rs_ex, rs_bad, nx_ok, fVar, fC, f2, fCall, aCons, aNil, vAnd, vOr, vNot, fAnd, fOr, fNot, fTru, tr_non, tr_bl, tr_int, tr_tup, tr_rol, fBl, bl_b, fIf, fIsi, gIsi, isiB, ty_non, ty_bl, ty_int, ty_str, ty_tup, ty_rol, fChain, lf_gtI, lf_ltI, lf_leI, lf_geI, addI, subI, List.getElem?_cons_zero, List.getElem?_cons_succ, List.set_cons_zero, List.set_cons_succ, fTup, fLst, tup0, lst0, tup1, lst1, tup2, lst2, tup3, lst3, tup4, lst4, tup5, lst5, tup6, lst6, tup7, lst7, tup8, lst8, tup9, lst9, tup10, lst10, tup11, lst11, tup12, lst12, fNeg, oSome, oNone, Bool.not_true, Bool.not_false, Bool.false_eq_true, if_true, if_false, ite_true, ite_false, lf_int, lf_lenT, lf_lenO, lf_truB, fM1, sSetIx2, sPar, sPar3, kb_NoneType_int, kb_NoneType_str, kb_NoneType_bool, kb_NoneType_tuple, kb_NoneType_list, kb_NoneType_dict, kb_bool_int, kb_bool_str, kb_bool_bool, kb_bool_tuple, kb_bool_list, kb_bool_dict, kb_int_int, kb_int_str, kb_int_bool, kb_int_tuple, kb_int_list, kb_int_dict, kb_str_int, kb_str_str, kb_str_bool, kb_str_tuple, kb_str_list, kb_str_dict, kb_tuple_int, kb_tuple_str, kb_tuple_bool, kb_tuple_tuple, kb_tuple_list, kb_tuple_dict, kb_list_int, kb_list_str, kb_list_bool, kb_list_tuple, kb_list_list, kb_list_dict, kb_dict_int, kb_dict_str, kb_dict_bool, kb_dict_tuple, kb_dict_list, kb_dict_dict, a, c]
theorem is_contents_odd {s : Str} (h : Txt.stripChars s SG ≠ "") (hk : PyData.strOk s = true) (hl : s.length ≤ 2000) : F_is_contents [.str s] m = .ok (.bl false) m := by
  have a := lenS (m := m) (s := s) (by omega)
  have b := has_only (m := m) (s := s) (t := SG) (by omega) hk
  rw [decide_eq_false h] at b
  have c : decide ((s.length : Int) ≤ 2000) = true := decide_eq_true (by omega)
  unfold F_is_contents B_is_contents
  simp only [fnD, startE, List.map_cons, List.map_nil, List.length_cons, List.length_nil, List.replicate, List.cons_append, List.nil_append, Nat.reduceAdd, Nat.reduceSub, Nat.zero_add, sSeq, sIf, sSet, sRet, sRetN, sPass, sExpr, sRaise, sBrk, sCnt, bd_ok, bd_ex, bd_bad, rs_ok, rs_ex, rs_bad, nx_ok, fVar, fC, f2, fCall, aCons, aNil, vAnd, vOr, vNot, fAnd, fOr, fNot, fTru, tr_non, tr_bl, tr_int, tr_tup, tr_rol, fBl, bl_b, fIf, fIsi, gIsi, isiB, ty_non, ty_bl, ty_int, ty_str, ty_tup, ty_rol, fChain, lf_gtI, lf_ltI, lf_leI, lf_geI, addI, subI, List.getElem?_cons_zero, List.getElem?_cons_succ, List.set_cons_zero, List.set_cons_succ, fTup, fLst, tup0, lst0, tup1, lst1, tup2, lst2, tup3, lst3, tup4, lst4, tup5, lst5, tup6, lst6, tup7, lst7, tup8, lst8, tup9, lst9, tup10, lst10, tup11, lst11, tup12, lst12, fNeg, oSome, oNone, Bool.not_true, Bool.not_false, Bool.false_eq_true, if_true, if_false, ite_true, ite_false, lf_int, lf_lenT, lf_lenO, lf_truB, fM1, sSetIx2, sPar, sPar3, kb_NoneType_int, kb_NoneType_str, kb_NoneType_bool, kb_NoneType_tuple, kb_NoneType_list, kb_NoneType_dict, kb_bool_int, kb_bool_str, kb_bool_bool, kb_bool_tuple, kb_bool_list, kb_bool_dict, kb_int_int, kb_int_str, kb_int_bool, kb_int_tuple, kb_int_list, kb_int_dict, kb_str_int, kb_str_str, kb_str_bool, kb_str_tuple, kb_str_list, kb_str_dict, kb_tuple_int, kb_tuple_str, kb_tuple_bool, kb_tuple_tuple, kb_tuple_list, kb_tuple_dict, kb_list_int, kb_list_str, kb_list_bool, kb_list_tuple, kb_list_list, kb_list_dict, kb_dict_int, kb_dict_str, kb_dict_bool, kb_dict_tuple, kb_dict_list, kb_dict_dict, a, c, b]
/-! ### a text's bytes -/
def cods (s : Str) : List Int := (TL.tl s).map fun (c : Nat) => (c : Int)
def ordD : D → D
  | .str t => .int (t.cps.getD 0 0 : Nat)
  | d => d
theorem ord_map (s : Str) : (strD s).map ordD = (cods s).map D.int := by
  unfold strD cods TL.tl
  rw [List.map_map, List.map_map]
  exact List.map_congr_left fun c _ => rfl
theorem strD_len' (s : Str) : (strD s).length = s.length := by unfold strD; simp; rfl
theorem strD_mem {s : Str} (h : d ∈ strD s) : ∃ c ∈ TL.tl s, d = .str ⟨#[c]⟩ := by
  unfold strD at h
  obtain ⟨c, hc, rfl⟩ := List.mem_map.mp h
  exact ⟨c, hc, rfl⟩
theorem ord_one {c : Nat} : gOrd [.str ⟨#[c]⟩] m = .ok (ordD (.str ⟨#[c]⟩)) m := by
  unfold gOrd
  simp only
  rw [if_pos (show (⟨#[c]⟩ : Str).length = 1 from rfl)]
  rfl
theorem seqS {f : Mn.Env → Mem → Res D} {ρ : Mn.Env} {s : Str} {m1 : Mem} (h : f ρ m = .ok (.str s) m1) : fSeq2 f ρ m = .ok (strD s, fun _ => true) m1 := by
  unfold fSeq2
  rw [h]
  rfl
theorem ord_comp {k : Nat} {f : Mn.Env → Mem → Res D} {ρ : Mn.Env} {s : Str} (h : f ρ m = .ok (.str s) m) (hl : s.length ≤ 100000) (hk : k < ρ.length) :
    fComp [k] (fSeq2 f) (gN k) ftYes (fCall gOrd (aCons (fVar k) aNil)) ρ m = .ok (.ref m.length) (m ++ [.lst ((cods s).map D.int)]) := by
  refine comp_eq (seqS h) ?_
  rw [← ord_map]
  refine comp_all ordD (fun _ => rfl) _ (by show (strD s).length ≤ _; rw [strD_len']; omega) fun acc d hd => ?_
  obtain ⟨c, hc, rfl⟩ := strD_mem hd
  refine ⟨_, rfl, ?_⟩
  have e : ((wipeE ρ [k]).set k (some (.str ⟨#[c]⟩)))[k]? = some (some (.str ⟨#[c]⟩)) := List.getElem?_set_self (by simp [wipeE]; exact hk)
  simp only [fCall, aCons, aNil, fVar, e, bd_ok, ord_one]
theorem text_octets {s : Str} (hl : s.length ≤ 100000) : ∃ g, F_text_octets [.str s] m = .ok (byD (cods s)) (m ++ g) := by
  have c := ord_comp (m := m) (k := 1) (f := fVar 0) (ρ := [some (.str s), none]) (s := s) rfl hl (by show 1 < 2; decide)
  refine ⟨[.lst ((cods s).map D.int)], ?_⟩
  unfold F_text_octets B_text_octets
  generalize fComp [1] (fSeq2 (fVar 0)) (gN 1) ftYes (fCall gOrd (aCons (fVar 1) aNil)) = Y at c ⊢
  simp only [fnD, startE, List.map_cons, List.map_nil, List.length_cons, List.length_nil, List.replicate, List.cons_append, List.nil_append, Nat.reduceAdd, Nat.reduceSub, Nat.zero_add, sSeq, sIf, sSet, sRet, sRetN, sPass, sExpr, sRaise, sBrk, sCnt, bd_ok, bd_ex, bd_bad, rs_ok, rs_ex, rs_bad, nx_ok, fVar, fC, f2, fCall, aCons, aNil, vAnd, vOr, vNot, fAnd, fOr, fNot, fTru, tr_non, tr_bl, tr_int, tr_tup, tr_rol, fBl, bl_b, fIf, fIsi, gIsi, isiB, ty_non, ty_bl, ty_int, ty_str, ty_tup, ty_rol, fChain, lf_gtI, lf_ltI, lf_leI, lf_geI, addI, subI, List.getElem?_cons_zero, List.getElem?_cons_succ, List.set_cons_zero, List.set_cons_succ, fTup, fLst, tup0, lst0, tup1, lst1, tup2, lst2, tup3, lst3, tup4, lst4, tup5, lst5, tup6, lst6, tup7, lst7, tup8, lst8, tup9, lst9, tup10, lst10, tup11, lst11, tup12, lst12, fNeg, oSome, oNone, Bool.not_true, Bool.not_false, Bool.false_eq_true, if_true, if_false, ite_true, ite_false, lf_int, lf_lenT, lf_lenO, lf_truB, fM1, sSetIx2, sPar, sPar3, kb_NoneType_int, kb_NoneType_str, kb_NoneType_bool, kb_NoneType_tuple, kb_NoneType_list, kb_NoneType_dict, kb_bool_int, kb_bool_str, kb_bool_bool, kb_bool_tuple, kb_bool_list, kb_bool_dict, kb_int_int, kb_int_str, kb_int_bool, kb_int_tuple, kb_int_list, kb_int_dict, kb_str_int, kb_str_str, kb_str_bool, kb_str_tuple, kb_str_list, kb_str_dict, kb_tuple_int, kb_tuple_str, kb_tuple_bool, kb_tuple_tuple, kb_tuple_list, kb_tuple_dict, kb_list_int, kb_list_str, kb_list_bool, kb_list_tuple, kb_list_list, kb_list_dict, kb_dict_int, kb_dict_str, kb_dict_bool, kb_dict_tuple, kb_dict_list, kb_dict_dict, c, tup_ref (m := m ++ [Mn.Obj.lst ((cods s).map D.int)]) getLast]
/-! ### the text of bytes -/
def foldK (fk : D → Key) (s : List Key × List D) (ds : List D) : List Key × List D := ds.foldl (fun s d => (putKs s.1 (fk d), putVs s.1 s.2 (fk d) d)) s
theorem putKs_len (ks : List Key) (k : Key) : (putKs ks k).length ≤ ks.length + 1 := by
  unfold putKs
  split
  · omega
  · simp
theorem dcomp_go {t : D → Mn.Env → Option Mn.Env} {tk tv : Mn.Env → Mem → Res D} {ρ : Mn.Env} (fk : D → Key) : ∀ (ds : List D) (s : List Key × List D), s.1.length + ds.length < 16777216 →
    (∀ d ∈ ds, ∃ ρ1 k, t d ρ = some ρ1 ∧ (∀ m, tk ρ1 m = .ok k m) ∧ keyD k = some (fk d) ∧ ∀ m, tv ρ1 m = .ok d m) →
    dcompD m.length (fun _ => true) t ftYes tk tv ρ ds (m ++ [.dic s.1 s.2]) = .ok (.ref m.length) (m ++ [.dic (foldK fk s ds).1 (foldK fk s ds).2])
  | [], s, hl, h => by simp only [dcompD, if_true]; rfl
  | d :: ds, s, hl, h => by
    obtain ⟨ρ1, k, h1, h2, h3, h4⟩ := h d List.mem_cons_self
    have := putKs_len s.1 (fk d)
    rw [List.length_cons] at hl
    have ih := dcomp_go fk ds (putKs s.1 (fk d), putVs s.1 s.2 (fk d) d) (by show (putKs s.1 (fk d)).length + _ < _; omega) fun d hd => h d (List.mem_cons_of_mem _ hd)
    simp only [dcompD, if_true, h1, ftYes, noex, bd_ok, h2, h4, putD, getLast, h3]
    rw [if_pos (by omega), setLast]
    exact ih
def keyS : D → Key
  | .str t => .inl (t.cps.getD 0 0 : Nat)
  | _ => .inl 0
def DK : List Key := (TL.tl SG).map fun c => .inl ((c : Nat) : Int)
theorem fold_sg : foldK keyS ([], []) (strD SG) = (DK, strD SG) := by
  have h : decide (foldK keyS ([], []) (strD SG) = (DK, strD SG)) = true := by decide +kernel
  exact of_decide_eq_true h
theorem val_in : ∀ {cs : List Nat} {c : Nat}, c ∈ cs → valD (cs.map fun c => (.inl ((c : Nat) : Int) : Key)) (cs.map fun c => D.str ⟨#[c]⟩) (.inl (c : Int)) = some (.str ⟨#[c]⟩)
  | a :: r, c, h => by
    simp only [List.map_cons, valD]
    by_cases e : a = c
    · subst e; rw [if_pos rfl]
    · rw [if_neg (fun z => e (by injection z with z; omega))]
      rcases List.mem_cons.mp h with h | h
      · exact absurd h.symm e
      · exact val_in h
theorem dict_sg : fDcomp [3] (fSeq2 (fC (.str SG))) (gN 3) ftYes (fCall gOrd (aCons (fVar 3) aNil)) (fVar 3) [some d, none, none, none, none] m = .ok (.ref m.length) (m ++ [.dic DK (strD SG)]) := by
  unfold fDcomp
  rw [seqS (m1 := m) rfl]
  simp only [bd_ok]
  have := dcomp_go (m := m) (t := gN 3) (tk := fCall gOrd (aCons (fVar 3) aNil)) (tv := fVar 3) (ρ := wipeE [some d, none, none, none, none] [3]) keyS (strD SG) ([], []) (by rw [strD_len']; decide +kernel) fun d hd => by
    obtain ⟨c, hc, rfl⟩ := strD_mem hd
    refine ⟨_, ordD (.str ⟨#[c]⟩), rfl, fun m => ?_, rfl, fun m => rfl⟩
    simp only [wipeE, fnD, startE, List.map_cons, List.map_nil, List.length_cons, List.length_nil, List.replicate, List.cons_append, List.nil_append, Nat.reduceAdd, Nat.reduceSub, Nat.zero_add, sSeq, sIf, sSet, sRet, sRetN, sPass, sExpr, sRaise, sBrk, sCnt, bd_ok, bd_ex, bd_bad, rs_ok, rs_ex, rs_bad, nx_ok, fVar, fC, f2, fCall, aCons, aNil, vAnd, vOr, vNot, fAnd, fOr, fNot, fTru, tr_non, tr_bl, tr_int, tr_tup, tr_rol, fBl, bl_b, fIf, fIsi, gIsi, isiB, ty_non, ty_bl, ty_int, ty_str, ty_tup, ty_rol, fChain, lf_gtI, lf_ltI, lf_leI, lf_geI, addI, subI, List.getElem?_cons_zero, List.getElem?_cons_succ, List.set_cons_zero, List.set_cons_succ, fTup, fLst, tup0, lst0, tup1, lst1, tup2, lst2, tup3, lst3, tup4, lst4, tup5, lst5, tup6, lst6, tup7, lst7, tup8, lst8, tup9, lst9, tup10, lst10, tup11, lst11, tup12, lst12, fNeg, oSome, oNone, Bool.not_true, Bool.not_false, Bool.false_eq_true, if_true, if_false, ite_true, ite_false, lf_int, lf_lenT, lf_lenO, lf_truB, fM1, sSetIx2, sPar, sPar3, kb_NoneType_int, kb_NoneType_str, kb_NoneType_bool, kb_NoneType_tuple, kb_NoneType_list, kb_NoneType_dict, kb_bool_int, kb_bool_str, kb_bool_bool, kb_bool_tuple, kb_bool_list, kb_bool_dict, kb_int_int, kb_int_str, kb_int_bool, kb_int_tuple, kb_int_list, kb_int_dict, kb_str_int, kb_str_str, kb_str_bool, kb_str_tuple, kb_str_list, kb_str_dict, kb_tuple_int, kb_tuple_str, kb_tuple_bool, kb_tuple_tuple, kb_tuple_list, kb_tuple_dict, kb_list_int, kb_list_str, kb_list_bool, kb_list_tuple, kb_list_list, kb_list_dict, kb_dict_int, kb_dict_str, kb_dict_bool, kb_dict_tuple, kb_dict_list, kb_dict_dict, ord_one]
  rw [fold_sg] at this
  exact this
theorem pyL_strs : ∀ ys : List Str, pyL (ys.map D.str) = some (ys.map PyData.str)
  | [] => rfl
  | y :: r => by simp only [List.map_cons, pyL, pyD, pyL_strs r]
theorem lay_strs : ∀ {ys : List Str}, (∀ y ∈ ys, PyData.strOk y = true) → PyData.canLayAll0 (ys.map PyData.str) = true
  | [], _ => rfl
  | y :: r, h => by
    simp only [List.map_cons, PyData.canLayAll0, PyData.canLay0, h y List.mem_cons_self, lay_strs (ys := r) fun z hz => h z (List.mem_cons_of_mem _ hz), Bool.and_self]
theorem dep_strs : ∀ ys : List Str, PyData.depthAll (ys.map PyData.str) = 0
  | [] => rfl
  | y :: r => by simp only [List.map_cons, PyData.depthAll, PyData.depth, dep_strs r]; rfl
theorem shaped_lst {ys : List Str} (h : ∀ y ∈ ys, PyData.strOk y = true) : SeqAt.shaped (.list (ys.map PyData.str)) = true := by
  simp [SeqAt.shaped, PyData.canLay0, PyData.depth, lay_strs h, dep_strs]
def ones (cs : List Nat) : List Str := cs.map fun c => ⟨#[c]⟩
theorem any_none (ys : List Str) : ((ys.map PyData.str).any fun z => PyData.eqv z .none) = false := by
  rw [List.any_eq_false]
  intro z hz
  obtain ⟨y, _, rfl⟩ := List.mem_map.mp hz
  simp [PyData.eqv]
theorem none_in {ys : List Str} (h : m[n]? = some (.lst (ys.map D.str))) (hk : ∀ y ∈ ys, PyData.strOk y = true) : gIn2 false .non (.ref n) m = .ok (.bl false) m := by
  unfold gIn2
  simp only [h]
  unfold gInL
  have sn : SeqAt.shaped PyData.none = true := rfl
  simp only [pyM, pyD, h, pyL_strs, sn, shaped_lst hk, Bool.and_self, if_true, any_none]
  rfl
theorem joinL_nil : ∀ ls : List (List Nat), TL.joinL [] ls = ls.flatten
  | [] => rfl
  | [p] => by simp [TL.joinL]
  | p :: q :: r => by
    show p ++ ([] ++ TL.joinL [] (q :: r)) = _
    rw [joinL_nil (q :: r)]
    simp
theorem tl_glue (cs : List Nat) : TL.tl (Txt.join "" (ones cs)) = cs := by
  unfold ones
  rw [TL.join_eq, TL.tl_join]
  show TL.joinL [] _ = _
  rw [joinL_nil, List.map_map]
  induction cs with
  | nil => rfl
  | cons c r ih => rw [List.map_cons, List.flatten_cons, ih]; rfl
theorem sum_ones (cs : List Nat) : ((ones cs).map (·.length)).sum = cs.length := by
  unfold ones
  induction cs with
  | nil => rfl
  | cons c r ih => rw [List.map_cons, List.map_cons, List.sum_cons, ih, List.length_cons]; show 1 + r.length = _; omega
def chD : D → D
  | .int c => .str ⟨#[c.toNat]⟩
  | d => d
theorem get_one {ks : List Key} {vs : List D} {f g : Mn.Env → Mem → Res D} {ρ : Mn.Env} {k : Key} {c y : D} (h1 : f ρ m = .ok (.ref n) m) (h2 : m[n]? = some (.dic ks vs)) (h3 : g ρ m = .ok c m) (h4 : keyD c = some k) (h5 : (valD ks vs k).getD .non = y) : fGet1 f g ρ m = .ok y m := by
  unfold fGet1
  simp only [h1, bd_ok, h2, h3, h4, h5]
theorem octets_text {s : Str} (h : Signs s) (hl : s.length ≤ 100000) : ∃ g, F_octets_text [byD (cods s)] m = .ok (.str s) (m ++ g) := by
  have dc := dict_sg (d := byD (cods s)) (m := m)
  have cp : fComp [4] (fSeq2 (fVar 0)) (gN 4) ftYes (fGet1 (fVar 1) (fVar 4)) [some (byD (cods s)), some (.ref m.length), none, none, none] (m ++ [.dic DK (strD SG)]) =
      .ok (.ref (m ++ [Mn.Obj.dic DK (strD SG)]).length) (m ++ [.dic DK (strD SG)] ++ [.lst ((ones (TL.tl s)).map D.str)]) := by
    refine comp_eq (seqT (m1 := m ++ [.dic DK (strD SG)]) rfl) ?_
    have e : (ones (TL.tl s)).map D.str = ((cods s).map D.int).map chD := by
      unfold ones cods
      rw [List.map_map, List.map_map, List.map_map]
      exact List.map_congr_left fun c _ => rfl
    rw [e]
    refine comp_all chD (fun _ => rfl) _ (by show ((cods s).map D.int).length ≤ _; unfold cods; rw [List.length_map, List.length_map, tl_len]; omega) fun acc d hd => ?_
    obtain ⟨b, hb, rfl⟩ := List.mem_map.mp hd
    obtain ⟨c, hc, rfl⟩ := List.mem_map.mp hb
    refine ⟨_, rfl, get_one (n := m.length) (ks := DK) (vs := strD SG) (k := .inl (c : Int)) (c := .int (c : Int)) rfl ?_ rfl rfl ?_⟩
    · rw [List.append_assoc, List.getElem?_append_right (Nat.le_refl _), Nat.sub_self]
      rfl
    · have := val_in (h c hc)
      unfold DK strD
      unfold TL.tl at this
      rw [show (TL.tl SG) = SG.cps.toList from rfl, this]
      rfl
  have hk : ∀ y ∈ ones (TL.tl s), PyData.strOk y = true := fun y hy => by
    obtain ⟨c, hc, rfl⟩ := List.mem_map.mp hy
    refine strOk_iff.mpr fun z hz => ?_
    have ez : z = c := by simpa [TL.tl] using hz
    have := sg_small c (h c hc)
    omega
  have ni := none_in (m := m ++ [.dic DK (strD SG)] ++ [.lst ((ones (TL.tl s)).map D.str)]) (n := (m ++ [Mn.Obj.dic DK (strD SG)]).length) (ys := ones (TL.tl s)) getLast hk
  have jn : gJoin "" [.ref (m ++ [Mn.Obj.dic DK (strD SG)]).length] (m ++ [.dic DK (strD SG)] ++ [.lst ((ones (TL.tl s)).map D.str)]) = .ok (.str s) (m ++ [.dic DK (strD SG)] ++ [.lst ((ones (TL.tl s)).map D.str)]) := by
    rw [lf_joinR (ys := ones (TL.tl s)) getLast (by rw [sum_ones, tl_len]; show s.length + _ * 0 ≤ _; omega)]
    rw [TL.ext_tl (tl_glue (TL.tl s))]
  refine ⟨[.dic DK (strD SG), .lst ((ones (TL.tl s)).map D.str)], ?_⟩
  unfold F_octets_text B_octets_text
  generalize fDcomp [3] (fSeq2 (fC (.str SG))) (gN 3) ftYes (fCall gOrd (aCons (fVar 3) aNil)) (fVar 3) = Z at dc ⊢
  generalize fComp [4] (fSeq2 (fVar 0)) (gN 4) ftYes (fGet1 (fVar 1) (fVar 4)) = Y at cp ⊢
  simp only [byD] at dc cp ⊢
  have e1 : gIsN (.ref (m ++ [Mn.Obj.dic DK (strD SG)]).length) .non (m ++ [.dic DK (strD SG)] ++ [.lst ((ones (TL.tl s)).map D.str)]) = .ok (.bl false) _ := isN_no fun z => by cases z
  simp only [fnD, startE, List.map_cons, List.map_nil, List.length_cons, List.length_nil, List.replicate, List.cons_append, List.nil_append, Nat.reduceAdd, Nat.reduceSub, Nat.zero_add, sSeq, sIf, sSet, sRet, sRetN, sPass, sExpr, sRaise, sBrk, sCnt, bd_ok, bd_ex, bd_bad, rs_ok, rs_ex, rs_bad, nx_ok, fVar, fC, f2, fCall, aCons, aNil, vAnd, vOr, vNot, fAnd, fOr, fNot, fTru, tr_non, tr_bl, tr_int, tr_tup, tr_rol, fBl, bl_b, fIf, fIsi, gIsi, isiB, ty_non, ty_bl, ty_int, ty_str, ty_tup, ty_rol, fChain, lf_gtI, lf_ltI, lf_leI, lf_geI, addI, subI, List.getElem?_cons_zero, List.getElem?_cons_succ, List.set_cons_zero, List.set_cons_succ, fTup, fLst, tup0, lst0, tup1, lst1, tup2, lst2, tup3, lst3, tup4, lst4, tup5, lst5, tup6, lst6, tup7, lst7, tup8, lst8, tup9, lst9, tup10, lst10, tup11, lst11, tup12, lst12, fNeg, oSome, oNone, Bool.not_true, Bool.not_false, Bool.false_eq_true, if_true, if_false, ite_true, ite_false, lf_int, lf_lenT, lf_lenO, lf_truB, fM1, sSetIx2, sPar, sPar3, kb_NoneType_int, kb_NoneType_str, kb_NoneType_bool, kb_NoneType_tuple, kb_NoneType_list, kb_NoneType_dict, kb_bool_int, kb_bool_str, kb_bool_bool, kb_bool_tuple, kb_bool_list, kb_bool_dict, kb_int_int, kb_int_str, kb_int_bool, kb_int_tuple, kb_int_list, kb_int_dict, kb_str_int, kb_str_str, kb_str_bool, kb_str_tuple, kb_str_list, kb_str_dict, kb_tuple_int, kb_tuple_str, kb_tuple_bool, kb_tuple_tuple, kb_tuple_list, kb_tuple_dict, kb_list_int, kb_list_str, kb_list_bool, kb_list_tuple, kb_list_list, kb_list_dict, kb_dict_int, kb_dict_str, kb_dict_bool, kb_dict_tuple, kb_dict_list, kb_dict_dict, dc, cp, ni, jn]
  simp only [List.append_assoc, List.singleton_append]
end
end Pm
end
section
set_option Elab.async false
set_option linter.all false
set_option maxRecDepth 100000
set_option maxHeartbeats 4000000
open PySem L2 Mn Pk
namespace Pm
section
variable {m : Mem} {n : Nat} {d x : D} {o : Mn.Obj} {r : Mem}
theorem text_bytes {s : Str} (h : Signs s) (hl : s.length ≤ 2000) : ∃ g, F_text_bytes [.str s] m = .ok (byD (cods s)) (m ++ g) := by
  have a := is_contents (m := m) h hl
  obtain ⟨g, e⟩ := text_octets (m := m) (s := s) (by omega)
  refine ⟨g, ?_⟩
  unfold F_text_bytes B_text_bytes
  simp only [fnD, startE, List.map_cons, List.map_nil, List.length_cons, List.length_nil, List.replicate, List.cons_append, List.nil_append, Nat.reduceAdd, Nat.reduceSub, Nat.zero_add, sSeq, sIf, sSet, sRet, sRetN, sPass, sExpr, sRaise, sBrk, sCnt, bd_ok, bd_ex, bd_bad, rs_ok, rs_ex, rs_bad, nx_ok, fVar, fC, f2, fCall, aCons, aNil, vAnd, vOr, vNot, fAnd, fOr, fNot, fTru, tr_non, tr_bl, tr_int, tr_tup, tr_rol, fBl, bl_b, fIf, fIsi, gIsi, isiB, ty_non, ty_bl, ty_int, ty_str, ty_tup, ty_rol, fChain, lf_gtI, lf_ltI, lf_leI, lf_geI, addI, subI, List.getElem?_cons_zero, List.getElem?_cons_succ, List.set_cons_zero, List.set_cons_succ, fTup, fLst, tup0, lst0, tup1, lst1, tup2, lst2, tup3, lst3, tup4, lst4, tup5, lst5, tup6, lst6, tup7, lst7, tup8, lst8, tup9, lst9, tup10, lst10, tup11, lst11, tup12, lst12, fNeg, oSome, oNone, Bool.not_true, Bool.not_false, Bool.false_eq_true, if_true, if_false, ite_true, ite_false, lf_int, lf_lenT, lf_lenO, lf_truB, fM1, sSetIx2, sPar, sPar3, kb_NoneType_int, kb_NoneType_str, kb_NoneType_bool, kb_NoneType_tuple, kb_NoneType_list, kb_NoneType_dict, kb_bool_int, kb_bool_str, kb_bool_bool, kb_bool_tuple, kb_bool_list, kb_bool_dict, kb_int_int, kb_int_str, kb_int_bool, kb_int_tuple, kb_int_list, kb_int_dict, kb_str_int, kb_str_str, kb_str_bool, kb_str_tuple, kb_str_list, kb_str_dict, kb_tuple_int, kb_tuple_str, kb_tuple_bool, kb_tuple_tuple, kb_tuple_list, kb_tuple_dict, kb_list_int, kb_list_str, kb_list_bool, kb_list_tuple, kb_list_list, kb_list_dict, kb_dict_int, kb_dict_str, kb_dict_bool, kb_dict_tuple, kb_dict_list, kb_dict_dict, a, e]
theorem text_bytes_bad (h : F_is_contents [d] m = .ok (.bl false) m) : F_text_bytes [d] m = .ex ⟨"BadContents", []⟩ m := by
  unfold F_text_bytes B_text_bytes
  simp only [fnD, startE, List.map_cons, List.map_nil, List.length_cons, List.length_nil, List.replicate, List.cons_append, List.nil_append, Nat.reduceAdd, Nat.reduceSub, Nat.zero_add, sSeq, sIf, sSet, sRet, sRetN, sPass, sExpr, sRaise, sBrk, sCnt, bd_ok, bd_ex, bd_bad, rs_ok, rs_ex, rs_bad, nx_ok, fVar, fC, f2, fCall, aCons, aNil, vAnd, vOr, vNot, fAnd, fOr, fNot, fTru, tr_non, tr_bl, tr_int, tr_tup, tr_rol, fBl, bl_b, fIf, fIsi, gIsi, isiB, ty_non, ty_bl, ty_int, ty_str, ty_tup, ty_rol, fChain, lf_gtI, lf_ltI, lf_leI, lf_geI, addI, subI, List.getElem?_cons_zero, List.getElem?_cons_succ, List.set_cons_zero, List.set_cons_succ, fTup, fLst, tup0, lst0, tup1, lst1, tup2, lst2, tup3, lst3, tup4, lst4, tup5, lst5, tup6, lst6, tup7, lst7, tup8, lst8, tup9, lst9, tup10, lst10, tup11, lst11, tup12, lst12, fNeg, oSome, oNone, Bool.not_true, Bool.not_false, Bool.false_eq_true, if_true, if_false, ite_true, ite_false, lf_int, lf_lenT, lf_lenO, lf_truB, fM1, sSetIx2, sPar, sPar3, kb_NoneType_int, kb_NoneType_str, kb_NoneType_bool, kb_NoneType_tuple, kb_NoneType_list, kb_NoneType_dict, kb_bool_int, kb_bool_str, kb_bool_bool, kb_bool_tuple, kb_bool_list, kb_bool_dict, kb_int_int, kb_int_str, kb_int_bool, kb_int_tuple, kb_int_list, kb_int_dict, kb_str_int, kb_str_str, kb_str_bool, kb_str_tuple, kb_str_list, kb_str_dict, kb_tuple_int, kb_tuple_str, kb_tuple_bool, kb_tuple_tuple, kb_tuple_list, kb_tuple_dict, kb_list_int, kb_list_str, kb_list_bool, kb_list_tuple, kb_list_list, kb_list_dict, kb_dict_int, kb_dict_str, kb_dict_bool, kb_dict_tuple, kb_dict_list, kb_dict_dict, h]
theorem cods_byte {s : Str} (h : Signs s) : ByteL (cods s) := fun b hb => by
  obtain ⟨c, hc, rfl⟩ := List.mem_map.mp hb
  have := sg_small c (h c hc)
  omega
theorem cods_len (s : Str) : (cods s).length = s.length := by unfold cods; rw [List.length_map, tl_len]
theorem bytes_text {s : Str} (h : Signs s) (hl : s.length ≤ 2000) : ∃ g, F_bytes_text [byD (cods s)] m = .ok (.str s) (m ++ g) := by
  have c := check_ok (m := m) (is_bytes (m := m) (cods_byte h) (k := 2000) (by rw [cods_len]; omega))
  obtain ⟨g, e⟩ := octets_text (m := m) h (by omega)
  refine ⟨g, ?_⟩
  have e1 := isN_no (d := .str s) (m := m ++ g) (fun z => by cases z)
  simp only [byD] at c e ⊢
  unfold F_bytes_text B_bytes_text
  simp only [fnD, startE, List.map_cons, List.map_nil, List.length_cons, List.length_nil, List.replicate, List.cons_append, List.nil_append, Nat.reduceAdd, Nat.reduceSub, Nat.zero_add, sSeq, sIf, sSet, sRet, sRetN, sPass, sExpr, sRaise, sBrk, sCnt, bd_ok, bd_ex, bd_bad, rs_ok, rs_ex, rs_bad, nx_ok, fVar, fC, f2, fCall, aCons, aNil, vAnd, vOr, vNot, fAnd, fOr, fNot, fTru, tr_non, tr_bl, tr_int, tr_tup, tr_rol, fBl, bl_b, fIf, fIsi, gIsi, isiB, ty_non, ty_bl, ty_int, ty_str, ty_tup, ty_rol, fChain, lf_gtI, lf_ltI, lf_leI, lf_geI, addI, subI, List.getElem?_cons_zero, List.getElem?_cons_succ, List.set_cons_zero, List.set_cons_succ, fTup, fLst, tup0, lst0, tup1, lst1, tup2, lst2, tup3, lst3, tup4, lst4, tup5, lst5, tup6, lst6, tup7, lst7, tup8, lst8, tup9, lst9, tup10, lst10, tup11, lst11, tup12, lst12, fNeg, oSome, oNone, Bool.not_true, Bool.not_false, Bool.false_eq_true, if_true, if_false, ite_true, ite_false, lf_int, lf_lenT, lf_lenO, lf_truB, fM1, sSetIx2, sPar, sPar3, kb_NoneType_int, kb_NoneType_str, kb_NoneType_bool, kb_NoneType_tuple, kb_NoneType_list, kb_NoneType_dict, kb_bool_int, kb_bool_str, kb_bool_bool, kb_bool_tuple, kb_bool_list, kb_bool_dict, kb_int_int, kb_int_str, kb_int_bool, kb_int_tuple, kb_int_list, kb_int_dict, kb_str_int, kb_str_str, kb_str_bool, kb_str_tuple, kb_str_list, kb_str_dict, kb_tuple_int, kb_tuple_str, kb_tuple_bool, kb_tuple_tuple, kb_tuple_list, kb_tuple_dict, kb_list_int, kb_list_str, kb_list_bool, kb_list_tuple, kb_list_list, kb_list_dict, kb_dict_int, kb_dict_str, kb_dict_bool, kb_dict_tuple, kb_dict_list, kb_dict_dict, c, e, e1]
theorem bytes_text_bad (h : F_is_bytes [d, .int 2000] m = .ok (.bl false) m) : F_bytes_text [d] m = .ex ⟨"BadBytes", []⟩ m := by
  have c := check_bad h
  unfold F_bytes_text B_bytes_text
  simp only [fnD, startE, List.map_cons, List.map_nil, List.length_cons, List.length_nil, List.replicate, List.cons_append, List.nil_append, Nat.reduceAdd, Nat.reduceSub, Nat.zero_add, sSeq, sIf, sSet, sRet, sRetN, sPass, sExpr, sRaise, sBrk, sCnt, bd_ok, bd_ex, bd_bad, rs_ok, rs_ex, rs_bad, nx_ok, fVar, fC, f2, fCall, aCons, aNil, vAnd, vOr, vNot, fAnd, fOr, fNot, fTru, tr_non, tr_bl, tr_int, tr_tup, tr_rol, fBl, bl_b, fIf, fIsi, gIsi, isiB, ty_non, ty_bl, ty_int, ty_str, ty_tup, ty_rol, fChain, lf_gtI, lf_ltI, lf_leI, lf_geI, addI, subI, List.getElem?_cons_zero, List.getElem?_cons_succ, List.set_cons_zero, List.set_cons_succ, fTup, fLst, tup0, lst0, tup1, lst1, tup2, lst2, tup3, lst3, tup4, lst4, tup5, lst5, tup6, lst6, tup7, lst7, tup8, lst8, tup9, lst9, tup10, lst10, tup11, lst11, tup12, lst12, fNeg, oSome, oNone, Bool.not_true, Bool.not_false, Bool.false_eq_true, if_true, if_false, ite_true, ite_false, lf_int, lf_lenT, lf_lenO, lf_truB, fM1, sSetIx2, sPar, sPar3, kb_NoneType_int, kb_NoneType_str, kb_NoneType_bool, kb_NoneType_tuple, kb_NoneType_list, kb_NoneType_dict, kb_bool_int, kb_bool_str, kb_bool_bool, kb_bool_tuple, kb_bool_list, kb_bool_dict, kb_int_int, kb_int_str, kb_int_bool, kb_int_tuple, kb_int_list, kb_int_dict, kb_str_int, kb_str_str, kb_str_bool, kb_str_tuple, kb_str_list, kb_str_dict, kb_tuple_int, kb_tuple_str, kb_tuple_bool, kb_tuple_tuple, kb_tuple_list, kb_tuple_dict, kb_list_int, kb_list_str, kb_list_bool, kb_list_tuple, kb_list_list, kb_list_dict, kb_dict_int, kb_dict_str, kb_dict_bool, kb_dict_tuple, kb_dict_list, kb_dict_dict, c]
theorem octets_text_37 : ∃ g, F_octets_text [.tup [.int 37]] m = .ok .non (m ++ g) := by
  have dc := dict_sg (d := .tup [.int 37]) (m := m)
  have cp : fComp [4] (fSeq2 (fVar 0)) (gN 4) ftYes (fGet1 (fVar 1) (fVar 4)) [some (.tup [.int 37]), some (.ref m.length), none, none, none] (m ++ [.dic DK (strD SG)]) =
      .ok (.ref (m ++ [Mn.Obj.dic DK (strD SG)]).length) (m ++ [.dic DK (strD SG)] ++ [.lst [.non]]) := by
    refine comp_eq (seqT (m1 := m ++ [.dic DK (strD SG)]) rfl) ?_
    refine comp_all (fun _ => .non) (fun _ => rfl) [.int 37] (by show 1 ≤ 16777216; exact Nat.le_of_ble_eq_true rfl) fun acc d hd => ?_
    rw [List.mem_singleton.mp hd]
    refine ⟨_, rfl, get_one (n := m.length) (ks := DK) (vs := strD SG) (k := .inl 37) (c := .int 37) rfl ?_ rfl rfl ?_⟩
    · rw [List.append_assoc, List.getElem?_append_right (Nat.le_refl _), Nat.sub_self]
      rfl
    · have h : decide ((valD DK (strD SG) (.inl 37)).getD .non = .non) = true := by decide +kernel
      exact of_decide_eq_true h
  have ni : gIn2 false .non (.ref (m ++ [Mn.Obj.dic DK (strD SG)]).length) (m ++ [.dic DK (strD SG)] ++ [.lst [.non]]) = .ok (.bl true) (m ++ [.dic DK (strD SG)] ++ [.lst [.non]]) := by
    unfold gIn2
    simp only [getLast]
    unfold gInL
    simp only [pyM, pyD, pyL, getLast]
    rfl
  refine ⟨[.dic DK (strD SG), .lst [.non]], ?_⟩
  unfold F_octets_text B_octets_text
  generalize fDcomp [3] (fSeq2 (fC (.str SG))) (gN 3) ftYes (fCall gOrd (aCons (fVar 3) aNil)) (fVar 3) = Z at dc ⊢
  generalize fComp [4] (fSeq2 (fVar 0)) (gN 4) ftYes (fGet1 (fVar 1) (fVar 4)) = Y at cp ⊢
  simp only [fnD, startE, List.map_cons, List.map_nil, List.length_cons, List.length_nil, List.replicate, List.cons_append, List.nil_append, Nat.reduceAdd, Nat.reduceSub, Nat.zero_add, sSeq, sIf, sSet, sRet, sRetN, sPass, sExpr, sRaise, sBrk, sCnt, bd_ok, bd_ex, bd_bad, rs_ok, rs_ex, rs_bad, nx_ok, fVar, fC, f2, fCall, aCons, aNil, vAnd, vOr, vNot, fAnd, fOr, fNot, fTru, tr_non, tr_bl, tr_int, tr_tup, tr_rol, fBl, bl_b, fIf, fIsi, gIsi, isiB, ty_non, ty_bl, ty_int, ty_str, ty_tup, ty_rol, fChain, lf_gtI, lf_ltI, lf_leI, lf_geI, addI, subI, List.getElem?_cons_zero, List.getElem?_cons_succ, List.set_cons_zero, List.set_cons_succ, fTup, fLst, tup0, lst0, tup1, lst1, tup2, lst2, tup3, lst3, tup4, lst4, tup5, lst5, tup6, lst6, tup7, lst7, tup8, lst8, tup9, lst9, tup10, lst10, tup11, lst11, tup12, lst12, fNeg, oSome, oNone, Bool.not_true, Bool.not_false, Bool.false_eq_true, if_true, if_false, ite_true, ite_false, lf_int, lf_lenT, lf_lenO, lf_truB, fM1, sSetIx2, sPar, sPar3, kb_NoneType_int, kb_NoneType_str, kb_NoneType_bool, kb_NoneType_tuple, kb_NoneType_list, kb_NoneType_dict, kb_bool_int, kb_bool_str, kb_bool_bool, kb_bool_tuple, kb_bool_list, kb_bool_dict, kb_int_int, kb_int_str, kb_int_bool, kb_int_tuple, kb_int_list, kb_int_dict, kb_str_int, kb_str_str, kb_str_bool, kb_str_tuple, kb_str_list, kb_str_dict, kb_tuple_int, kb_tuple_str, kb_tuple_bool, kb_tuple_tuple, kb_tuple_list, kb_tuple_dict, kb_list_int, kb_list_str, kb_list_bool, kb_list_tuple, kb_list_list, kb_list_dict, kb_dict_int, kb_dict_str, kb_dict_bool, kb_dict_tuple, kb_dict_list, kb_dict_dict, dc, cp, ni]
  simp only [List.append_assoc, List.singleton_append]
theorem bytes_text_37 : ∃ g, F_bytes_text [.tup [.int 37]] m = .ex ⟨"BadBytes", []⟩ (m ++ g) := by
  have c := check_ok (m := m) (is_bytes (m := m) (bs := [37]) (fun b hb => by rw [List.mem_singleton.mp hb]; decide) (k := 2000) (by decide))
  obtain ⟨g, e⟩ := octets_text_37 (m := m)
  refine ⟨g, ?_⟩
  have e1 : gIsN .non .non (m ++ g) = .ok (.bl true) (m ++ g) := rfl
  simp only [byD, List.map_cons, List.map_nil] at c
  unfold F_bytes_text B_bytes_text
  simp only [fnD, startE, List.map_cons, List.map_nil, List.length_cons, List.length_nil, List.replicate, List.cons_append, List.nil_append, Nat.reduceAdd, Nat.reduceSub, Nat.zero_add, sSeq, sIf, sSet, sRet, sRetN, sPass, sExpr, sRaise, sBrk, sCnt, bd_ok, bd_ex, bd_bad, rs_ok, rs_ex, rs_bad, nx_ok, fVar, fC, f2, fCall, aCons, aNil, vAnd, vOr, vNot, fAnd, fOr, fNot, fTru, tr_non, tr_bl, tr_int, tr_tup, tr_rol, fBl, bl_b, fIf, fIsi, gIsi, isiB, ty_non, ty_bl, ty_int, ty_str, ty_tup, ty_rol, fChain, lf_gtI, lf_ltI, lf_leI, lf_geI, addI, subI, List.getElem?_cons_zero, List.getElem?_cons_succ, List.set_cons_zero, List.set_cons_succ, fTup, fLst, tup0, lst0, tup1, lst1, tup2, lst2, tup3, lst3, tup4, lst4, tup5, lst5, tup6, lst6, tup7, lst7, tup8, lst8, tup9, lst9, tup10, lst10, tup11, lst11, tup12, lst12, fNeg, oSome, oNone, Bool.not_true, Bool.not_false, Bool.false_eq_true, if_true, if_false, ite_true, ite_false, lf_int, lf_lenT, lf_lenO, lf_truB, fM1, sSetIx2, sPar, sPar3, kb_NoneType_int, kb_NoneType_str, kb_NoneType_bool, kb_NoneType_tuple, kb_NoneType_list, kb_NoneType_dict, kb_bool_int, kb_bool_str, kb_bool_bool, kb_bool_tuple, kb_bool_list, kb_bool_dict, kb_int_int, kb_int_str, kb_int_bool, kb_int_tuple, kb_int_list, kb_int_dict, kb_str_int, kb_str_str, kb_str_bool, kb_str_tuple, kb_str_list, kb_str_dict, kb_tuple_int, kb_tuple_str, kb_tuple_bool, kb_tuple_tuple, kb_tuple_list, kb_tuple_dict, kb_list_int, kb_list_str, kb_list_bool, kb_list_tuple, kb_list_list, kb_list_dict, kb_dict_int, kb_dict_str, kb_dict_bool, kb_dict_tuple, kb_dict_list, kb_dict_dict, c, e, e1]
/-! ### draws of texts -/
theorem pickN' {ns : List Int} (h : IsRow ns o) {ds : List D} (h0 : 0 < ds.length) (h1 : ds.length ≤ 100000) :
    ∃ d o', F_law_pick [.ref 0, .ref (r.length + 1)] (o :: (r ++ [.lst ds])) = .ok d (o' :: (r ++ [.lst ds])) ∧ IsRow ns o' ∧ d ∈ ds :=
  pick (r := r ++ [.lst ds]) (n := r.length) h (ds := ds) (by simp) h0 h1
theorem rep_run {s : Str} {k : Int} (h0 : -1000 ≤ k) (h1 : k ≤ 100000) (hs : s.length ≤ 100) : gMul2 (.str s) (.int k) m = .ok (.str (repS s k)) m := by
  unfold gMul2
  simp only
  rw [if_pos]
  refine ⟨by omega, by omega, ?_⟩
  have : k.toNat ≤ 100000 := by omega
  exact Nat.le_trans (Nat.mul_le_mul hs this) (by decide)
theorem rep_len' (s : Str) (k : Int) : (repS s k).length = s.length * k.toNat := by
  unfold repS
  show (List.replicate k.toNat s.cps.toList).flatten.toArray.size = s.cps.size * k.toNat
  rw [List.size_toArray, List.length_flatten, List.map_replicate, List.sum_replicate_nat, Array.length_toList, Nat.mul_comm]
theorem rep_mem {s : Str} {k : Int} {c : Nat} (h : c ∈ TL.tl (repS s k)) : c ∈ TL.tl s := by
  unfold repS TL.tl at h
  simp only [List.mem_flatten, List.mem_replicate] at h
  obtain ⟨l, ⟨_, rfl⟩, hc⟩ := h
  exact hc
theorem cut_mem {s : Str} {lo hi : Option Int} {c : Nat} (h : c ∈ TL.tl (cutS s lo hi)) : c ∈ TL.tl s := by
  unfold cutS TL.tl at h
  exact List.mem_of_mem_drop (List.mem_of_mem_take h)
theorem Signs.add {s t : Str} (h : Signs s) (g : Signs t) : Signs (s ++ t) := fun c hc => by
  have e : TL.tl (s ++ t) = TL.tl s ++ TL.tl t := TL.tl_append s t
  rw [e] at hc
  rcases List.mem_append.mp hc with hc | hc
  · exact h c hc
  · exact g c hc
theorem len_add (s t : Str) : (s ++ t).length = s.length + t.length := by
  have e : TL.tl (s ++ t) = TL.tl s ++ TL.tl t := TL.tl_append s t
  have := congrArg List.length e
  rw [List.length_append, tl_len, tl_len, tl_len] at this
  exact this
def signsB (s : Str) : Bool := (TL.tl s).all fun c => (TL.tl SG).contains c
theorem signs_of {s : Str} (h : signsB s = true) : Signs s := fun c hc => by
  have := List.all_eq_true.mp h c hc
  simpa using this
theorem addS {s t : Str} (h : s.length + t.length ≤ 100000) : gAdd (.str s) (.str t) m = .ok (.str (s ++ t)) m := lf_addS (by omega)
theorem slS1 {s : Str} (h : s.length ≤ 100000) : gSl (.str s) none (some (-1)) m = .ok (.str (cutS s none (some (-1)))) m := lf_slS (by omega)
theorem law_text {ns : List Int} (h : IsRow ns o) : ∃ s o' g, F_law_text [.ref 0] (o :: r) = .ok (.str s) (o' :: (r ++ g)) ∧ IsRow ns o' ∧ Signs s ∧ s.length ≤ 102 := by
  obtain ⟨d1, o1, e1, h1, m1⟩ := pickN' (r := r) h (ds := [.str "a", .str "b", .str "Z", .str "7", .str " ", .str "="]) (by decide) (by decide)
  obtain ⟨d2, o2, e2, h2, m2⟩ := pickN' (r := r ++ [.lst [.str "a", .str "b", .str "Z", .str "7", .str " ", .str "="]]) h1 (ds := [.int 0, .int 1, .int 2, .int 3, .int 5, .int 49, .int 50, .int 51, .int 101]) (by decide) (by decide)
  obtain ⟨d3, o3, e3, h3, m3⟩ := pickN' (r := r ++ [.lst [.str "a", .str "b", .str "Z", .str "7", .str " ", .str "="]] ++ [.lst [.int 0, .int 1, .int 2, .int 3, .int 5, .int 49, .int 50, .int 51, .int 101]]) h2 (ds := [.str "x", .str "y", .str "z"]) (by decide) (by decide)
  have q1 : ∃ s, d1 = .str s ∧ s.length = 1 ∧ Signs s := by
    simp only [List.mem_cons, List.not_mem_nil, or_false] at m1
    rcases m1 with rfl | rfl | rfl | rfl | rfl | rfl <;> exact ⟨_, rfl, by decide +kernel, signs_of (by decide +kernel)⟩
  have q2 : ∃ k : Int, d2 = .int k ∧ 0 ≤ k ∧ k ≤ 101 := by
    simp only [List.mem_cons, List.not_mem_nil, or_false] at m2
    rcases m2 with rfl | rfl | rfl | rfl | rfl | rfl | rfl | rfl | rfl <;> exact ⟨_, rfl, by decide, by decide⟩
  have q3 : ∃ s, d3 = .str s ∧ s.length = 1 ∧ Signs s := by
    simp only [List.mem_cons, List.not_mem_nil, or_false] at m3
    rcases m3 with rfl | rfl | rfl <;> exact ⟨_, rfl, by decide +kernel, signs_of (by decide +kernel)⟩
  obtain ⟨s, rfl, ls, gs⟩ := q1
  obtain ⟨k, rfl, k0, k1⟩ := q2
  obtain ⟨t, rfl, lt, gt⟩ := q3
  by_cases hk : 0 < k
  · have rl : (repS s k).length = k.toNat := by rw [rep_len', ls, Nat.one_mul]
    have cl := cutS_length (repS s k) none (some (-1))
    refine ⟨cutS (repS s k) none (some (-1)) ++ t, o3, [.lst [.str "a", .str "b", .str "Z", .str "7", .str " ", .str "="]] ++ [.lst [.int 0, .int 1, .int 2, .int 3, .int 5, .int 49, .int 50, .int 51, .int 101]] ++ [.lst [.str "x", .str "y", .str "z"]], ?_, h3, Signs.add (fun c hc => gs c (rep_mem (cut_mem hc))) gt, by rw [len_add]; omega⟩
    have a1 := fun m => rep_run (m := m) (s := s) (k := k) (by omega) (by omega) (by omega)
    have a2 := fun m => slS1 (m := m) (s := repS s k) (by omega)
    have a3 := fun m => addS (m := m) (s := cutS (repS s k) none (some (-1))) (t := t) (by omega)
    unfold F_law_text B_law_text
    simp only [fnD, startE, List.map_cons, List.map_nil, List.length_cons, List.length_nil, List.replicate, List.cons_append, List.nil_append, Nat.reduceAdd, Nat.reduceSub, Nat.zero_add, sSeq, sIf, sSet, sRet, sRetN, sPass, sExpr, sRaise, sBrk, sCnt, bd_ok, bd_ex, bd_bad, rs_ok, rs_ex, rs_bad, nx_ok, fVar, fC, f2, fCall, aCons, aNil, vAnd, vOr, vNot, fAnd, fOr, fNot, fTru, tr_non, tr_bl, tr_int, tr_tup, tr_rol, fBl, bl_b, fIf, fIsi, gIsi, isiB, ty_non, ty_bl, ty_int, ty_str, ty_tup, ty_rol, fChain, lf_gtI, lf_ltI, lf_leI, lf_geI, addI, subI, List.getElem?_cons_zero, List.getElem?_cons_succ, List.set_cons_zero, List.set_cons_succ, fTup, fLst, tup0, lst0, tup1, lst1, tup2, lst2, tup3, lst3, tup4, lst4, tup5, lst5, tup6, lst6, tup7, lst7, tup8, lst8, tup9, lst9, tup10, lst10, tup11, lst11, tup12, lst12, fNeg, oSome, oNone, Bool.not_true, Bool.not_false, Bool.false_eq_true, if_true, if_false, ite_true, ite_false, lf_int, lf_lenT, lf_lenO, lf_truB, fM1, sSetIx2, sPar, sPar3, kb_NoneType_int, kb_NoneType_str, kb_NoneType_bool, kb_NoneType_tuple, kb_NoneType_list, kb_NoneType_dict, kb_bool_int, kb_bool_str, kb_bool_bool, kb_bool_tuple, kb_bool_list, kb_bool_dict, kb_int_int, kb_int_str, kb_int_bool, kb_int_tuple, kb_int_list, kb_int_dict, kb_str_int, kb_str_str, kb_str_bool, kb_str_tuple, kb_str_list, kb_str_dict, kb_tuple_int, kb_tuple_str, kb_tuple_bool, kb_tuple_tuple, kb_tuple_list, kb_tuple_dict, kb_list_int, kb_list_str, kb_list_bool, kb_list_tuple, kb_list_list, kb_list_dict, kb_dict_int, kb_dict_str, kb_dict_bool, kb_dict_tuple, kb_dict_list, kb_dict_dict, e1, e2, decide_eq_true hk, fSl, a1, a2, e3, a3]
    simp only [List.append_assoc, List.cons_append, List.nil_append]
  · refine ⟨"", o2, [.lst [.str "a", .str "b", .str "Z", .str "7", .str " ", .str "="]] ++ [.lst [.int 0, .int 1, .int 2, .int 3, .int 5, .int 49, .int 50, .int 51, .int 101]], ?_, h2, signs_of (by decide +kernel), by decide +kernel⟩
    unfold F_law_text B_law_text
    simp only [fnD, startE, List.map_cons, List.map_nil, List.length_cons, List.length_nil, List.replicate, List.cons_append, List.nil_append, Nat.reduceAdd, Nat.reduceSub, Nat.zero_add, sSeq, sIf, sSet, sRet, sRetN, sPass, sExpr, sRaise, sBrk, sCnt, bd_ok, bd_ex, bd_bad, rs_ok, rs_ex, rs_bad, nx_ok, fVar, fC, f2, fCall, aCons, aNil, vAnd, vOr, vNot, fAnd, fOr, fNot, fTru, tr_non, tr_bl, tr_int, tr_tup, tr_rol, fBl, bl_b, fIf, fIsi, gIsi, isiB, ty_non, ty_bl, ty_int, ty_str, ty_tup, ty_rol, fChain, lf_gtI, lf_ltI, lf_leI, lf_geI, addI, subI, List.getElem?_cons_zero, List.getElem?_cons_succ, List.set_cons_zero, List.set_cons_succ, fTup, fLst, tup0, lst0, tup1, lst1, tup2, lst2, tup3, lst3, tup4, lst4, tup5, lst5, tup6, lst6, tup7, lst7, tup8, lst8, tup9, lst9, tup10, lst10, tup11, lst11, tup12, lst12, fNeg, oSome, oNone, Bool.not_true, Bool.not_false, Bool.false_eq_true, if_true, if_false, ite_true, ite_false, lf_int, lf_lenT, lf_lenO, lf_truB, fM1, sSetIx2, sPar, sPar3, kb_NoneType_int, kb_NoneType_str, kb_NoneType_bool, kb_NoneType_tuple, kb_NoneType_list, kb_NoneType_dict, kb_bool_int, kb_bool_str, kb_bool_bool, kb_bool_tuple, kb_bool_list, kb_bool_dict, kb_int_int, kb_int_str, kb_int_bool, kb_int_tuple, kb_int_list, kb_int_dict, kb_str_int, kb_str_str, kb_str_bool, kb_str_tuple, kb_str_list, kb_str_dict, kb_tuple_int, kb_tuple_str, kb_tuple_bool, kb_tuple_tuple, kb_tuple_list, kb_tuple_dict, kb_list_int, kb_list_str, kb_list_bool, kb_list_tuple, kb_list_list, kb_list_dict, kb_dict_int, kb_dict_str, kb_dict_bool, kb_dict_tuple, kb_dict_list, kb_dict_dict, e1, e2, decide_eq_false hk]
    simp only [List.append_assoc, List.cons_append, List.nil_append]
/-! ### bytes by the law's own steps -/
theorem add_ref {a b : Nat} {xs ys : List D} (h1 : m[a]? = some (.lst xs)) (h2 : m[b]? = some (.lst ys)) (h : xs.length + ys.length ≤ 100000) : gAdd (.ref a) (.ref b) m = .ok (.ref m.length) (m ++ [.lst (xs ++ ys)]) := lf_addR h1 h2 (by omega)
theorem in_bytes {a k : Int} (h0 : 0 ≤ k) (hk : k ≤ 1000) : ∃ j g, F_law_in_bytes [.int a, .int k] m = .ok (.ref j) (m ++ g) ∧ m.length ≤ j ∧ (m ++ g)[j]? = some (.lst ((octs a k.toNat).map D.int)) := by
  have lp : ∀ (l : List D) (a : Int) (acc : List Int) (j : Nat) (g : Mem) (x : Option D), acc.length + l.length ≤ 10000 → m.length ≤ j → (m ++ g)[j]? = some (.lst (acc.map D.int)) →
      ∃ a' x' j' g', loopD (fun _ => true) (gN 3) (sSeq (sSet 2 (f2 gAdd (fLst (aCons (f2 gMod (fCall gInt (aCons (fVar 0) aNil)) (fC (.int 256))) aNil)) (fVar 2))) (sSet 0 (f2 gDiv (fVar 0) (fC (.int 256))))) l
        [some (.int a), some (.int k), some (.ref j), x] (m ++ g) = .nx [some (.int a'), some (.int k), some (.ref j'), x'] (m ++ g') ∧ m.length ≤ j' ∧ (m ++ g')[j']? = some (.lst (((lits l.length a).reverse ++ acc).map D.int)) := by
    intro l
    induction l with
    | nil => intro a acc j g x hl hj hm; exact ⟨a, x, j, g, by simp only [loopD, if_true], hj, by simpa [lits] using hm⟩
    | cons y l ih =>
      intro a acc j g x hl hj hm
      rw [List.length_cons] at hl
      have hjl : j < (m ++ g).length := (List.getElem?_eq_some_iff.mp hm).1
      have ad := add_ref (m := m ++ g ++ [.lst [.int (a % 256)]]) (a := (m ++ g).length) (b := j) (xs := [.int (a % 256)]) (ys := acc.map D.int) getLast (by rw [List.getElem?_append_left hjl]; exact hm) (by rw [List.length_map, List.length_singleton]; omega)
      obtain ⟨a', x', j', g', e, hj', hm'⟩ := ih (a / 256) (a % 256 :: acc) ((m ++ g ++ [Mn.Obj.lst [.int (a % 256)]]).length) (g ++ [.lst [.int (a % 256)]] ++ [.lst ([.int (a % 256)] ++ acc.map D.int)]) (some y) (by rw [List.length_cons]; omega) (by simp only [List.length_append]; omega)
        (by rw [← List.append_assoc, ← List.append_assoc]; exact getLast)
      refine ⟨a', x', j', g', ?_, hj', ?_⟩
      · simp only [loopD, if_true, gN, fnD, startE, List.map_cons, List.map_nil, List.length_cons, List.length_nil, List.replicate, List.cons_append, List.nil_append, Nat.reduceAdd, Nat.reduceSub, Nat.zero_add, sSeq, sIf, sSet, sRet, sRetN, sPass, sExpr, sRaise, sBrk, sCnt, bd_ok, bd_ex, bd_bad, rs_ok, rs_ex, rs_bad, nx_ok, fVar, fC, f2, fCall, aCons, aNil, vAnd, vOr, vNot, fAnd, fOr, fNot, fTru, tr_non, tr_bl, tr_int, tr_tup, tr_rol, fBl, bl_b, fIf, fIsi, gIsi, isiB, ty_non, ty_bl, ty_int, ty_str, ty_tup, ty_rol, fChain, lf_gtI, lf_ltI, lf_leI, lf_geI, addI, subI, List.getElem?_cons_zero, List.getElem?_cons_succ, List.set_cons_zero, List.set_cons_succ, fTup, fLst, tup0, lst0, tup1, lst1, tup2, lst2, tup3, lst3, tup4, lst4, tup5, lst5, tup6, lst6, tup7, lst7, tup8, lst8, tup9, lst9, tup10, lst10, tup11, lst11, tup12, lst12, fNeg, oSome, oNone, Bool.not_true, Bool.not_false, Bool.false_eq_true, if_true, if_false, ite_true, ite_false, lf_int, lf_lenT, lf_lenO, lf_truB, fM1, sSetIx2, sPar, sPar3, kb_NoneType_int, kb_NoneType_str, kb_NoneType_bool, kb_NoneType_tuple, kb_NoneType_list, kb_NoneType_dict, kb_bool_int, kb_bool_str, kb_bool_bool, kb_bool_tuple, kb_bool_list, kb_bool_dict, kb_int_int, kb_int_str, kb_int_bool, kb_int_tuple, kb_int_list, kb_int_dict, kb_str_int, kb_str_str, kb_str_bool, kb_str_tuple, kb_str_list, kb_str_dict, kb_tuple_int, kb_tuple_str, kb_tuple_bool, kb_tuple_tuple, kb_tuple_list, kb_tuple_dict, kb_list_int, kb_list_str, kb_list_bool, kb_list_tuple, kb_list_list, kb_list_dict, kb_dict_int, kb_dict_str, kb_dict_bool, kb_dict_tuple, kb_dict_list, kb_dict_dict, mod_ (show (0 : Int) < 256 by decide), ad, div_ (show (0 : Int) < 256 by decide) (show (256 : Int) < 1073741824 by decide)]
        simp only [List.append_assoc, List.cons_append, List.nil_append] at e ⊢
        exact e
      · rw [hm']
        show _ = some (Mn.Obj.lst (((a % 256 :: lits l.length (a / 256)).reverse ++ acc).map D.int))
        rw [List.reverse_cons, List.append_assoc]
        rfl
  obtain ⟨a', x', j', g', e, hj', hm'⟩ := lp (rangeD 0 k) a [] m.length [.lst []] none (by rw [rng_len]; simp; omega) (Nat.le_refl _) getLast
  rw [rng_len, List.append_nil] at hm'
  have f := for_run (t := gN 3) (body := sSeq (sSet 2 (f2 gAdd (fLst (aCons (f2 gMod (fCall gInt (aCons (fVar 0) aNil)) (fC (.int 256))) aNil)) (fVar 2))) (sSet 0 (f2 gDiv (fVar 0) (fC (.int 256))))) (rng_run (ρ := [some (.int a), some (.int k), some (.ref m.length), none]) (f := fVar 1) (m := m ++ [.lst []]) (m1 := m ++ [.lst []]) rfl (by omega) (by omega)) e
  refine ⟨j', g', ?_, hj', hm'⟩
  unfold F_law_in_bytes B_law_in_bytes
  generalize sFor (fRng (aCons (fVar 1) aNil)) (gN 3) (sSeq (sSet 2 (f2 gAdd (fLst (aCons (f2 gMod (fCall gInt (aCons (fVar 0) aNil)) (fC (.int 256))) aNil)) (fVar 2))) (sSet 0 (f2 gDiv (fVar 0) (fC (.int 256))))) = Y at f ⊢
  simp only [fnD, startE, List.map_cons, List.map_nil, List.length_cons, List.length_nil, List.replicate, List.cons_append, List.nil_append, Nat.reduceAdd, Nat.reduceSub, Nat.zero_add, sSeq, sIf, sSet, sRet, sRetN, sPass, sExpr, sRaise, sBrk, sCnt, bd_ok, bd_ex, bd_bad, rs_ok, rs_ex, rs_bad, nx_ok, fVar, fC, f2, fCall, aCons, aNil, vAnd, vOr, vNot, fAnd, fOr, fNot, fTru, tr_non, tr_bl, tr_int, tr_tup, tr_rol, fBl, bl_b, fIf, fIsi, gIsi, isiB, ty_non, ty_bl, ty_int, ty_str, ty_tup, ty_rol, fChain, lf_gtI, lf_ltI, lf_leI, lf_geI, addI, subI, List.getElem?_cons_zero, List.getElem?_cons_succ, List.set_cons_zero, List.set_cons_succ, fTup, fLst, tup0, lst0, tup1, lst1, tup2, lst2, tup3, lst3, tup4, lst4, tup5, lst5, tup6, lst6, tup7, lst7, tup8, lst8, tup9, lst9, tup10, lst10, tup11, lst11, tup12, lst12, fNeg, oSome, oNone, Bool.not_true, Bool.not_false, Bool.false_eq_true, if_true, if_false, ite_true, ite_false, lf_int, lf_lenT, lf_lenO, lf_truB, fM1, sSetIx2, sPar, sPar3, kb_NoneType_int, kb_NoneType_str, kb_NoneType_bool, kb_NoneType_tuple, kb_NoneType_list, kb_NoneType_dict, kb_bool_int, kb_bool_str, kb_bool_bool, kb_bool_tuple, kb_bool_list, kb_bool_dict, kb_int_int, kb_int_str, kb_int_bool, kb_int_tuple, kb_int_list, kb_int_dict, kb_str_int, kb_str_str, kb_str_bool, kb_str_tuple, kb_str_list, kb_str_dict, kb_tuple_int, kb_tuple_str, kb_tuple_bool, kb_tuple_tuple, kb_tuple_list, kb_tuple_dict, kb_list_int, kb_list_str, kb_list_bool, kb_list_tuple, kb_list_list, kb_list_dict, kb_dict_int, kb_dict_str, kb_dict_bool, kb_dict_tuple, kb_dict_list, kb_dict_dict, f]
/-! ### refusals caught -/
theorem ev_tryX {tab : ETab} {x : Str} {i : Nat} {F : Mn.Env → Mem → Out} {GG : Exc → Addr → Mn.Env → Mem → Out} {ρ ρ' : Mn.Env} {m1 : Mem} {e : Exc} {o : Out} (h : F ρ m = .ex e ρ' m1) (h1 : subD tab e.cls x = some true) (h2 : e.fs.isEmpty = true) (h3 : clean i (GG e 0 (ρ'.set i (some (.raw 0))) m1) = o) : sTry tab x i F GG ρ m = o := by
  unfold sTry
  rw [h]
  simp only [h1]
  rw [if_pos h2]
  exact h3
theorem ev_isE {tab : ETab} {C : Str} {i : Nat} {e : Exc} {a : Addr} {ρ : Mn.Env} {b : Bool} (h : ρ[i]? = some (some (.raw a))) (h1 : subD tab e.cls C = some b) : fIsE tab C i e a ρ m = .ok (.bl b) m := by
  unfold fIsE
  rw [h]
  simp only [h1, if_true]
theorem ev_act {A : Nat → Mem → Res D} {i k : Nat} {ρ : Mn.Env} {r : Res D} (h : ρ[i]? = some (some (.clo k))) (h2 : A k m = r) : fAct i A ρ m = r := by
  unfold fAct
  rw [h]
  exact h2
theorem ev_hof {Fw : (Nat → Mem → Res D) → List D → Mem → Res D} {n : Nat} {sem : Nat → Mn.Env → Mem → Res D} {fs : Mn.Env → Mem → Res (List D)} {ρ : Mn.Env} {ds : List D} {m1 : Mem} {r : Res D} (h : fs ρ m = .ok ds m1) (h2 : Fw (fun k m => if k < n then sem k ρ m else .bad) ds m1 = r) : fHof Fw n sem fs ρ m = r := by
  unfold fHof
  rw [h]
  exact h2
end
end Pm
end
section
set_option Elab.async false
set_option linter.all false
set_option maxRecDepth 100000
set_option maxHeartbeats 4000000
open PySem L2 Mn Pk
namespace Pm
/-! ### the distance of rows with check bytes -/
theorem sum_set : ∀ (l : List Int) (p : Nat) (x b : Int), l[p]? = some b → (l.set p x).sum = l.sum + (x - b)
  | [], p, x, b, h => by simp at h
  | a :: r, 0, x, b, h => by
    simp only [List.getElem?_cons_zero, Option.some.injEq] at h
    simp only [List.set_cons_zero, List.sum_cons]
    omega
  | a :: r, p + 1, x, b, h => by
    simp only [List.getElem?_cons_succ] at h
    simp only [List.set_cons_succ, List.sum_cons, sum_set r p x b h]
    omega
theorem wsum_set : ∀ (l : List Int) (k p : Nat) (x b : Int), l[p]? = some b → wsum k (l.set p x) = wsum k l + ((k : Int) + (p : Int) + 1) * (x - b)
  | [], k, p, x, b, h => by simp at h
  | a :: r, k, 0, x, b, h => by
    simp only [List.getElem?_cons_zero, Option.some.injEq] at h
    subst h
    simp only [List.set_cons_zero, wsum, Int.mul_sub]
    have : ((k : Int) + ((0 : Nat) : Int) + 1) = (k : Int) + 1 := by simp
    rw [this]
    omega
  | a :: r, k, p + 1, x, b, h => by
    simp only [List.getElem?_cons_succ] at h
    simp only [List.set_cons_succ, wsum, wsum_set r (k + 1) p x b h]
    have : (((k + 1 : Nat) : Int) + (p : Int) + 1) = ((k : Int) + ((p + 1 : Nat) : Int) + 1) := by push_cast; omega
    rw [this]
    omega
theorem cop257 : ∀ k : Nat, k < 257 → 0 < k → Nat.gcd 257 k = 1 := by decide
theorem no257 {u v : Int} (hu : u ≠ 0) (hu1 : -257 < u) (hu2 : u < 257) (hv : v ≠ 0) (hv1 : -257 < v) (hv2 : v < 257) (h : u * v % 257 = 0) : False := by
  have h1 : (257 : Int) ∣ u * v := Int.dvd_of_emod_eq_zero h
  have h2 : 257 ∣ u.natAbs * v.natAbs := by
    have := Int.natAbs_dvd_natAbs.mpr h1
    rwa [Int.natAbs_mul] at this
  have h3 : 257 ∣ v.natAbs := Nat.Coprime.dvd_of_dvd_mul_left (cop257 u.natAbs (by omega) (by omega)) h2
  have h4 := Nat.le_of_dvd (by omega) h3
  omega
theorem octs_inj {a c : Int} (ha : 0 ≤ a ∧ a < 257) (hc : 0 ≤ c ∧ c < 257) (h : octs a 2 = octs c 2) : a = c := by
  simp only [octs, lits, List.reverse_cons, List.reverse_nil, List.nil_append, List.cons_append, List.cons.injEq, and_true] at h
  omega
/-- one place (p = q) or two places written anew, each with another byte -/
def Chg (w w' : List Int) : Prop := ∃ (p q : Nat) (x y b c : Int), w[p]? = some b ∧ w[q]? = some c ∧ x ≠ b ∧ y ≠ c ∧ (0 ≤ x ∧ x ≤ 255) ∧ (0 ≤ y ∧ y ≤ 255) ∧ w' = (w.set p x).set q y
theorem Chg.len {w w' : List Int} (h : Chg w w') : w'.length = w.length := by
  obtain ⟨p, q, x, y, b, c, _, _, _, _, _, _, rfl⟩ := h
  simp only [List.length_set]
theorem mem_set_of {l : List Int} {p : Nat} {x z : Int} (h : z ∈ l.set p x) : z ∈ l ∨ z = x := List.mem_or_eq_of_mem_set h
theorem Chg.byte {w w' : List Int} (h : Chg w w') (hw : ByteL w) : ByteL w' := by
  obtain ⟨p, q, x, y, b, c, _, _, _, _, h5, h6, rfl⟩ := h
  intro z hz
  rcases mem_set_of hz with hz | rfl
  · rcases mem_set_of hz with hz | rfl
    · exact hw z hz
    · exact h5
  · exact h6
theorem Chg.ne {w w' : List Int} (h : Chg w w') : w' ≠ w := by
  obtain ⟨p, q, x, y, b, c, _, h2, _, h4, _, _, rfl⟩ := h
  intro e
  have : ((w.set p x).set q y)[q]? = w[q]? := by rw [e]
  rw [List.getElem?_set_self (by rw [List.length_set]; exact (List.getElem?_eq_some_iff.mp h2).1), h2] at this
  exact h4 (Option.some.inj this)
theorem chk_of {a a' : List Int} (h : octs (chk1 a) 2 = octs (chk1 a') 2) : chk1 a = chk1 a' :=
  octs_inj ⟨(chk_small a).1, (chk_small a).2.1⟩ ⟨(chk_small a').1, (chk_small a').2.1⟩ h
theorem chk_of2 {a a' : List Int} (h : octs (chk2 a) 2 = octs (chk2 a') 2) : chk2 a = chk2 a' :=
  octs_inj ⟨(chk_small a).2.2.1, (chk_small a).2.2.2⟩ ⟨(chk_small a').2.2.1, (chk_small a').2.2.2⟩ h
/-- a row's front part and its four check bytes, one place of which may be written anew -/
theorem one_front {a : List Int} {p : Nat} {x b : Int} (ha : ByteL a) (hp : a[p]? = some b) (hl : a.length ≤ 250) (hx : 0 ≤ x ∧ x ≤ 255) (hxb : x ≠ b) : chk1 (a.set p x) ≠ chk1 a ∧ chk2 (a.set p x) ≠ chk2 a := by
  have hb := ha b (List.mem_of_getElem? hp)
  have pl := (List.getElem?_eq_some_iff.mp hp).1
  unfold chk1 chk2
  rw [sum_set a p x b hp, wsum_set a 0 p x b hp]
  refine ⟨by omega, fun e => ?_⟩
  have : ((((0 : Nat) : Int) + (p : Int) + 1) * (x - b)) % 257 = 0 := by omega
  exact no257 (by omega) (by omega) (by omega) (by omega) (by omega) (by omega) this
theorem two_front {a : List Int} {p q : Nat} {x y b c : Int} (ha : ByteL a) (hp : a[p]? = some b) (hq : a[q]? = some c) (hn : p ≠ q) (hl : a.length ≤ 250) (hx : 0 ≤ x ∧ x ≤ 255) (hy : 0 ≤ y ∧ y ≤ 255) (hxb : x ≠ b) (hyc : y ≠ c)
    (h1 : chk1 ((a.set p x).set q y) = chk1 a) (h2 : chk2 ((a.set p x).set q y) = chk2 a) : False := by
  have hb := ha b (List.mem_of_getElem? hp)
  have hc := ha c (List.mem_of_getElem? hq)
  have pl := (List.getElem?_eq_some_iff.mp hp).1
  have ql := (List.getElem?_eq_some_iff.mp hq).1
  have hq' : (a.set p x)[q]? = some c := by rw [List.getElem?_set_ne hn]; exact hq
  unfold chk1 at h1
  unfold chk2 at h2
  rw [sum_set _ q y c hq', sum_set a p x b hp] at h1
  rw [wsum_set _ 0 q y c hq', wsum_set a 0 p x b hp] at h2
  have e1 : ((x - b) + (y - c)) % 257 = 0 := by omega
  have e2 : ((((0 : Nat) : Int) + (p : Int) + 1) * (x - b) + (((0 : Nat) : Int) + (q : Int) + 1) * (y - c)) % 257 = 0 := by omega
  obtain ⟨k, hk⟩ := Int.dvd_of_emod_eq_zero e1
  have e3 : x - b = 257 * k - (y - c) := by omega
  have e4 : (((0 : Nat) : Int) + (p : Int) + 1) * (x - b) + (((0 : Nat) : Int) + (q : Int) + 1) * (y - c) = 257 * ((((0 : Nat) : Int) + (p : Int) + 1) * k) + ((q : Int) - p) * (y - c) := by
    rw [e3]
    generalize y - c = z
    generalize (p : Int) = P
    generalize (q : Int) = Q
    simp only [Int.mul_sub, Int.sub_mul, Int.add_mul, Int.mul_add, Int.mul_left_comm]
    simp
    omega
  rw [e4] at e2
  have e5 : (((q : Int) - p) * (y - c)) % 257 = 0 := by omega
  exact no257 (by omega) (by omega) (by omega) (by omega) (by omega) (by omega) e5
theorem set_left {a b : List Int} {p : Nat} {x : Int} (h : p < a.length) : (a ++ b).set p x = a.set p x ++ b := by
  rw [List.set_append, if_pos h]
theorem set_right {a b : List Int} {p : Nat} {x : Int} (h : ¬ p < a.length) : (a ++ b).set p x = a ++ b.set (p - a.length) x := by
  rw [List.set_append, if_neg h]
theorem app_inj {a b c d : List Int} (h : a ++ b = c ++ d) (hl : a.length = c.length) : a = c ∧ b = d := List.append_inj h hl
/-- the check bytes with one place written anew agree in one of the two sums -/
theorem four_set {c1 c2 d1 d2 : List Int} {j : Nat} {x : Int} (hc : c1.length = 2) (hc2 : c2.length = 2) (hd : d1.length = 2) (h : (c1 ++ c2).set j x = d1 ++ d2) : c1 = d1 ∨ c2 = d2 := by
  by_cases hj : j < c1.length
  · rw [set_left hj] at h
    exact .inr (app_inj h (by rw [List.length_set, hc, hd])).2
  · rw [set_right hj] at h
    exact .inl (app_inj h (by rw [hc, hd])).1
theorem far_one {a a' : List Int} {j : Nat} {x : Int} (h : (octs (chk1 a) 2 ++ octs (chk2 a) 2).set j x = octs (chk1 a') 2 ++ octs (chk2 a') 2) (h1 : chk1 a' ≠ chk1 a) (h2 : chk2 a' ≠ chk2 a) : False := by
  rcases four_set (octs_len _ _) (octs_len _ _) (octs_len _ _) h with e | e
  · exact h1 (chk_of e).symm
  · exact h2 (chk_of2 e).symm
theorem far {a w' a' : List Int} (ha : ByteL a) (hl : a.length ≤ 250) (h : Chg (wchk a) w') (hw : w' = wchk a') (hal : a'.length = a.length) : False := by
  have hne := h.ne
  obtain ⟨p, q, x, y, b, c, hb, hc, hx, hy, hx2, hy2, e⟩ := h
  rw [hw] at e hne
  unfold wchk at hb hc e
  by_cases hp : p < a.length
  · rw [List.getElem?_append_left hp] at hb
    rw [set_left hp] at e
    by_cases hq : q < a.length
    · rw [List.getElem?_append_left hq] at hc
      rw [set_left (by rw [List.length_set]; exact hq)] at e
      obtain ⟨e1, e2⟩ := app_inj e (by rw [List.length_set, List.length_set]; exact hal)
      obtain ⟨e3, e4⟩ := app_inj e2 (by rw [octs_len, octs_len])
      by_cases hn : p = q
      · subst hn
        rw [List.set_set] at e1
        have := one_front ha hc hl hy2 hy
        rw [← e1] at this
        exact this.1 (chk_of e3)
      · refine two_front ha hb hc hn hl hx2 hy2 hx hy ?_ ?_
        · rw [← e1]; exact chk_of e3
        · rw [← e1]; exact chk_of2 e4
    · rw [set_right (by rw [List.length_set]; exact hq)] at e
      obtain ⟨e1, e2⟩ := app_inj e (by rw [List.length_set]; exact hal)
      have := one_front ha hb hl hx2 hx
      rw [← e1] at this
      exact far_one e2.symm this.1 this.2
  · rw [set_right hp] at e
    by_cases hq : q < a.length
    · rw [List.getElem?_append_left hq] at hc
      rw [set_left hq] at e
      obtain ⟨e1, e2⟩ := app_inj e (by rw [List.length_set]; exact hal)
      have := one_front ha hc hl hy2 hy
      rw [← e1] at this
      exact far_one e2.symm this.1 this.2
    · rw [set_right hq] at e
      obtain ⟨e1, e2⟩ := app_inj e hal
      exact hne (by rw [e1])
theorem Chg.unchk {a w' : List Int} (ha : ByteL a) (hl : a.length ≤ 250) (h : Chg (wchk a) w') : unchk w' = none := by
  unfold Pm.unchk
  rw [if_neg fun e => far ha hl h e.symm (by rw [List.length_take, h.len, wchk_len]; omega)]
end Pm
end
section
set_option Elab.async false
set_option linter.all false
set_option maxRecDepth 100000
set_option maxHeartbeats 4000000
open PySem L2 Mn Pk
namespace Pm
section
variable {m : Mem} {n : Nat} {d x : D} {o : Mn.Obj} {r : Mem} {ρ : Mn.Env} {ns : List Int}
abbrev cval : Mn.Env → Mem → Res D := f2 gMod (f2 gAdd (f2 gAdd (f2 gIx2 (fVar 1) (fVar 5)) (fC (.int 1))) (fCall F_law_pick (aCons (fVar 0) (aCons (fLst (aCons (fC (.int 0)) (aCons (fC (.int 254)) (aCons (fC (.int 127)) (aCons (fCall F_law_taken (aCons (fVar 0) (aCons (fC (.int 255)) aNil))) aNil))))) aNil)))) (fC (.int 256))
theorem chg_val {bs : List Int} {s b : Int} (ho : IsRow ns o) (h0 : ρ[0]? = some (some (.ref 0))) (h1 : ρ[1]? = some (some (byD bs))) (h5 : ρ[5]? = some (some (.int s))) (hb : atI (bs.map D.int) s = some (.int b)) (b0 : 0 ≤ b ∧ b ≤ 255) :
    ∃ x o' g, cval ρ (o :: r) = .ok (.int x) (o' :: (r ++ g)) ∧ IsRow ns o' ∧ x ≠ b ∧ 0 ≤ x ∧ x ≤ 255 := by
  obtain ⟨v, o1, e1, ho1, v0, v1⟩ := taken (r := r) ho 255 (by decide) (by decide)
  obtain ⟨d, o2, e2, ho2, hd⟩ := pickN' (r := r) ho1 (ds := [.int 0, .int 254, .int 127, .int v]) (Nat.succ_pos _) (show (4 : Nat) ≤ 100000 by decide)
  have q : ∃ k : Int, d = .int k ∧ 0 ≤ k ∧ k ≤ 254 := by
    simp only [List.mem_cons, List.not_mem_nil, or_false] at hd
    rcases hd with rfl | rfl | rfl | rfl <;> exact ⟨_, rfl, by omega, by omega⟩
  obtain ⟨k, rfl, k0, k1⟩ := q
  refine ⟨(b + 1 + k) % 256, o2, [.lst [.int 0, .int 254, .int 127, .int v]], ?_, ho2, by omega, by omega, by omega⟩
  have i1 : gIx2 (byD bs) (.int s) (o :: r) = .ok (.int b) (o :: r) := ix2T hb
  unfold cval
  simp only [fnD, startE, List.map_cons, List.map_nil, List.length_cons, List.length_nil, List.replicate, List.cons_append, List.nil_append, Nat.reduceAdd, Nat.reduceSub, Nat.zero_add, sSeq, sIf, sSet, sRet, sRetN, sPass, sExpr, sRaise, sBrk, sCnt, bd_ok, bd_ex, bd_bad, rs_ok, rs_ex, rs_bad, nx_ok, fVar, fC, f2, fCall, aCons, aNil, vAnd, vOr, vNot, fAnd, fOr, fNot, fTru, tr_non, tr_bl, tr_int, tr_tup, tr_rol, fBl, bl_b, fIf, fIsi, gIsi, isiB, ty_non, ty_bl, ty_int, ty_str, ty_tup, ty_rol, fChain, lf_gtI, lf_ltI, lf_leI, lf_geI, addI, subI, List.getElem?_cons_zero, List.getElem?_cons_succ, List.set_cons_zero, List.set_cons_succ, fTup, fLst, tup0, lst0, tup1, lst1, tup2, lst2, tup3, lst3, tup4, lst4, tup5, lst5, tup6, lst6, tup7, lst7, tup8, lst8, tup9, lst9, tup10, lst10, tup11, lst11, tup12, lst12, fNeg, oSome, oNone, Bool.not_true, Bool.not_false, Bool.false_eq_true, if_true, if_false, ite_true, ite_false, lf_int, lf_lenT, lf_lenO, lf_truB, fM1, sSetIx2, sPar, sPar3, kb_NoneType_int, kb_NoneType_str, kb_NoneType_bool, kb_NoneType_tuple, kb_NoneType_list, kb_NoneType_dict, kb_bool_int, kb_bool_str, kb_bool_bool, kb_bool_tuple, kb_bool_list, kb_bool_dict, kb_int_int, kb_int_str, kb_int_bool, kb_int_tuple, kb_int_list, kb_int_dict, kb_str_int, kb_str_str, kb_str_bool, kb_str_tuple, kb_str_list, kb_str_dict, kb_tuple_int, kb_tuple_str, kb_tuple_bool, kb_tuple_tuple, kb_tuple_list, kb_tuple_dict, kb_list_int, kb_list_str, kb_list_bool, kb_list_tuple, kb_list_list, kb_list_dict, kb_dict_int, kb_dict_str, kb_dict_bool, kb_dict_tuple, kb_dict_list, kb_dict_dict, h0, h1, h5, i1, e1, e2, mod_ (show (0 : Int) < 256 by decide)]
theorem at_mid {a : Mem} {x : Mn.Obj} {t : Mem} : (o :: (a ++ x :: t))[a.length + 1]? = some x := by simp
theorem at_mid' {a : Mem} {x : Mn.Obj} {t : Mem} : (a ++ x :: t)[a.length]? = some x := by simp
theorem set_mid {a : Mem} {x y : Mn.Obj} {t : Mem} : (o :: (a ++ x :: t)).set (a.length + 1) y = o :: (a ++ y :: t) := by simp
theorem ixN_nat {n p : Nat} (h : p < n) : ixN n (p : Int) = some p := by
  unfold ixN
  simp
  omega
theorem atI_map {bs : List Int} {p : Nat} {b : Int} (h : bs[p]? = some b) : atI (bs.map D.int) (p : Int) = some (.int b) := atI_nat (by rw [List.getElem?_map, h]; rfl)
abbrev cbody : Mn.Env → Mem → Out := sSetIx2 (fVar 3) (fVar 5) cval
theorem chg_body {bs cs : List Int} {p : Nat} {b : Int} {x2 x4 : Option D} {t : Mem} (ho : IsRow ns o) (hp : bs[p]? = some b) (hb : ByteL bs) (hl : cs.length = bs.length) :
    ∃ x o' g, cbody [some (.ref 0), some (byD bs), x2, some (.ref (r.length + 1)), x4, some (.int (p : Int))] (o :: (r ++ .lst (cs.map D.int) :: t)) = .nx [some (.ref 0), some (byD bs), x2, some (.ref (r.length + 1)), x4, some (.int (p : Int))] (o' :: (r ++ .lst ((cs.set p x).map D.int) :: (t ++ g))) ∧ IsRow ns o' ∧ x ≠ b ∧ 0 ≤ x ∧ x ≤ 255 := by
  obtain ⟨x, o', g, e, h1, h2⟩ := chg_val (ρ := [some (.ref 0), some (byD bs), x2, some (.ref (r.length + 1)), x4, some (.int (p : Int))]) (r := r ++ .lst (cs.map D.int) :: t) ho rfl rfl rfl (atI_map hp) (hb b (List.mem_of_getElem? hp))
  refine ⟨x, o', g, ?_, h1, h2⟩
  have hm : (o' :: (r ++ .lst (cs.map D.int) :: t ++ g)) = o' :: (r ++ .lst (cs.map D.int) :: (t ++ g)) := by simp
  have hi : ixN (cs.map D.int).length (p : Int) = some p := ixN_nat (by rw [List.length_map, hl]; exact (List.getElem?_eq_some_iff.mp hp).1)
  have hs : (cs.map D.int).set p (.int x) = (cs.set p x).map D.int := by rw [List.map_set]
  rw [hm] at e
  unfold cbody sSetIx2
  rw [e, rs_ok]
  simp only [fVar, List.getElem?_cons_zero, List.getElem?_cons_succ, rs_ok, at_mid', hi, set_mid, hs]
theorem ref_src {f : Mn.Env → Mem → Res D} {n : Nat} {ds : List D} {m1 : Mem} (h : f ρ m = .ok (.ref n) m1) (h2 : m1[n]? = some (.lst ds)) : fSeq2 f ρ m = .ok (ds, fun m' => decide (m'[n]? = some (.lst ds))) m1 := by
  unfold fSeq2
  rw [h]
  simp only [bd_ok, srcD2, srcD, h2]
theorem lst2T {xs : List D} : gLst2 [.tup xs] m = .ok (.ref m.length) (m ++ [.lst xs]) := rfl
theorem slR2 {xs ys : List D} {lo hi : Option Int} (h : m[n]? = some (.lst xs)) (hc : cutD xs lo hi = ys) : gSl (.ref n) lo hi m = .ok (.ref m.length) (m ++ [.lst ys]) := by
  rw [← hc]
  exact lf_slR h
theorem cut1 {a b : D} : cutD [a, b] none (some 1) = [a] := rfl
theorem cut2 {a b : D} : cutD [a, b] none (some 2) = [a, b] := rfl
abbrev cfor : Mn.Env → Mem → Out := sFor (fSeq2 (fSl (fVar 4) oNone (oSome (f2 gAdd (fC (.int 1)) (fCall F_law_taken (aCons (fVar 0) (aCons (fC (.int 2)) aNil))))))) (gN 5) cbody
theorem chg_loop {bs : List Int} {p q : Nat} {x2 x5 : Option D} (ho : IsRow ns o) (hb : ByteL bs) (hp : p < bs.length) (hq : q < bs.length) :
    ∃ bs' o' g x5', cfor [some (.ref 0), some (byD bs), x2, some (.ref (r.length + 1)), some (.ref (r.length + 2)), x5] (o :: (r ++ .lst (bs.map D.int) :: [.lst [.int (p : Int), .int (q : Int)]])) =
      .nx [some (.ref 0), some (byD bs), x2, some (.ref (r.length + 1)), some (.ref (r.length + 2)), x5'] (o' :: (r ++ .lst (bs'.map D.int) :: g)) ∧ IsRow ns o' ∧ Chg bs bs' := by
  obtain ⟨v, o1, e1, ho1, v0, v1⟩ := taken (r := r ++ .lst (bs.map D.int) :: [.lst [.int (p : Int), .int (q : Int)]]) ho 2 (by decide) (by decide)
  have ep : bs[p]? = some bs[p] := List.getElem?_eq_getElem hp
  have eq : bs[q]? = some bs[q] := List.getElem?_eq_getElem hq
  have h4 : (o1 :: (r ++ .lst (bs.map D.int) :: [.lst [.int (p : Int), .int (q : Int)]]))[r.length + 2]? = some (.lst [.int (p : Int), .int (q : Int)]) := by simp
  have hlen : (o1 :: (r ++ .lst (bs.map D.int) :: [.lst [.int (p : Int), .int (q : Int)]])).length = r.length + 3 := by simp
  have h3 : ∀ (o : Mn.Obj) (x y z : Mn.Obj) (t : Mem), (o :: (r ++ x :: y :: z :: t))[r.length + 3]? = some z := by intro o x y z t; simp
  have ht : ∀ (o : Mn.Obj) (x y z : Mn.Obj), o :: (r ++ x :: [y]) ++ [z] = o :: (r ++ x :: y :: z :: []) := by intro o x y z; simp
  rcases (show v = 0 ∨ v = 1 by omega) with rfl | rfl
  · have s1 : gSl (.ref (r.length + 2)) none (some 1) (o1 :: (r ++ .lst (bs.map D.int) :: [.lst [.int (p : Int), .int (q : Int)]])) = .ok (.ref (r.length + 3)) (o1 :: (r ++ .lst (bs.map D.int) :: .lst [.int (p : Int), .int (q : Int)] :: .lst [.int (p : Int)] :: [])) := by
      rw [slR2 h4 cut1, hlen, ht]
    obtain ⟨x, o2, g, e2, ho2, x0, x1⟩ := chg_body (r := r) (x2 := x2) (x4 := some (.ref (r.length + 2))) (t := .lst [.int (p : Int), .int (q : Int)] :: .lst [.int (p : Int)] :: []) ho1 ep hb rfl
    refine ⟨bs.set p x, o2, .lst [.int (p : Int), .int (q : Int)] :: .lst [.int (p : Int)] :: g, some (.int (p : Int)), for_run (ref_src (n := r.length + 3) (ds := [.int (p : Int)]) (by simp only [fnD, startE, List.map_cons, List.map_nil, List.length_cons, List.length_nil, List.replicate, List.cons_append, List.nil_append, Nat.reduceAdd, Nat.reduceSub, Nat.zero_add, sSeq, sIf, sSet, sRet, sRetN, sPass, sExpr, sRaise, sBrk, sCnt, bd_ok, bd_ex, bd_bad, rs_ok, rs_ex, rs_bad, nx_ok, fVar, fC, f2, fCall, aCons, aNil, vAnd, vOr, vNot, fAnd, fOr, fNot, fTru, tr_non, tr_bl, tr_int, tr_tup, tr_rol, fBl, bl_b, fIf, fIsi, gIsi, isiB, ty_non, ty_bl, ty_int, ty_str, ty_tup, ty_rol, fChain, lf_gtI, lf_ltI, lf_leI, lf_geI, addI, subI, List.getElem?_cons_zero, List.getElem?_cons_succ, List.set_cons_zero, List.set_cons_succ, fTup, fLst, tup0, lst0, tup1, lst1, tup2, lst2, tup3, lst3, tup4, lst4, tup5, lst5, tup6, lst6, tup7, lst7, tup8, lst8, tup9, lst9, tup10, lst10, tup11, lst11, tup12, lst12, fNeg, oSome, oNone, Bool.not_true, Bool.not_false, Bool.false_eq_true, if_true, if_false, ite_true, ite_false, lf_int, lf_lenT, lf_lenO, lf_truB, fM1, sSetIx2, sPar, sPar3, kb_NoneType_int, kb_NoneType_str, kb_NoneType_bool, kb_NoneType_tuple, kb_NoneType_list, kb_NoneType_dict, kb_bool_int, kb_bool_str, kb_bool_bool, kb_bool_tuple, kb_bool_list, kb_bool_dict, kb_int_int, kb_int_str, kb_int_bool, kb_int_tuple, kb_int_list, kb_int_dict, kb_str_int, kb_str_str, kb_str_bool, kb_str_tuple, kb_str_list, kb_str_dict, kb_tuple_int, kb_tuple_str, kb_tuple_bool, kb_tuple_tuple, kb_tuple_list, kb_tuple_dict, kb_list_int, kb_list_str, kb_list_bool, kb_list_tuple, kb_list_list, kb_list_dict, kb_dict_int, kb_dict_str, kb_dict_bool, kb_dict_tuple, kb_dict_list, kb_dict_dict, fSl, e1, Int.reduceAdd]; exact s1) (h3 _ _ _ _ _)) ?_, ho2, p, p, x, x, _, _, ep, ep, x0, x0, x1, x1, by rw [List.set_set]⟩
    simp only [List.cons_append, List.nil_append] at e2
    simp only [loopD, h3, decide_true, if_true, gN, List.set_cons_succ, List.set_cons_zero, e2]
  · have s1 : gSl (.ref (r.length + 2)) none (some 2) (o1 :: (r ++ .lst (bs.map D.int) :: [.lst [.int (p : Int), .int (q : Int)]])) = .ok (.ref (r.length + 3)) (o1 :: (r ++ .lst (bs.map D.int) :: .lst [.int (p : Int), .int (q : Int)] :: .lst [.int (p : Int), .int (q : Int)] :: [])) := by
      rw [slR2 h4 cut2, hlen, ht]
    obtain ⟨x, o2, g, e2, ho2, x0, x1⟩ := chg_body (r := r) (x2 := x2) (x4 := some (.ref (r.length + 2))) (t := .lst [.int (p : Int), .int (q : Int)] :: .lst [.int (p : Int), .int (q : Int)] :: []) ho1 ep hb rfl
    obtain ⟨y, o3, g', e3, ho3, y0, y1⟩ := chg_body (r := r) (x2 := x2) (cs := bs.set p x) (x4 := some (.ref (r.length + 2))) (t := .lst [.int (p : Int), .int (q : Int)] :: .lst [.int (p : Int), .int (q : Int)] :: g) ho2 eq hb (by rw [List.length_set])
    refine ⟨(bs.set p x).set q y, o3, .lst [.int (p : Int), .int (q : Int)] :: .lst [.int (p : Int), .int (q : Int)] :: (g ++ g'), some (.int (q : Int)), for_run (ref_src (n := r.length + 3) (ds := [.int (p : Int), .int (q : Int)]) (by simp only [fnD, startE, List.map_cons, List.map_nil, List.length_cons, List.length_nil, List.replicate, List.cons_append, List.nil_append, Nat.reduceAdd, Nat.reduceSub, Nat.zero_add, sSeq, sIf, sSet, sRet, sRetN, sPass, sExpr, sRaise, sBrk, sCnt, bd_ok, bd_ex, bd_bad, rs_ok, rs_ex, rs_bad, nx_ok, fVar, fC, f2, fCall, aCons, aNil, vAnd, vOr, vNot, fAnd, fOr, fNot, fTru, tr_non, tr_bl, tr_int, tr_tup, tr_rol, fBl, bl_b, fIf, fIsi, gIsi, isiB, ty_non, ty_bl, ty_int, ty_str, ty_tup, ty_rol, fChain, lf_gtI, lf_ltI, lf_leI, lf_geI, addI, subI, List.getElem?_cons_zero, List.getElem?_cons_succ, List.set_cons_zero, List.set_cons_succ, fTup, fLst, tup0, lst0, tup1, lst1, tup2, lst2, tup3, lst3, tup4, lst4, tup5, lst5, tup6, lst6, tup7, lst7, tup8, lst8, tup9, lst9, tup10, lst10, tup11, lst11, tup12, lst12, fNeg, oSome, oNone, Bool.not_true, Bool.not_false, Bool.false_eq_true, if_true, if_false, ite_true, ite_false, lf_int, lf_lenT, lf_lenO, lf_truB, fM1, sSetIx2, sPar, sPar3, kb_NoneType_int, kb_NoneType_str, kb_NoneType_bool, kb_NoneType_tuple, kb_NoneType_list, kb_NoneType_dict, kb_bool_int, kb_bool_str, kb_bool_bool, kb_bool_tuple, kb_bool_list, kb_bool_dict, kb_int_int, kb_int_str, kb_int_bool, kb_int_tuple, kb_int_list, kb_int_dict, kb_str_int, kb_str_str, kb_str_bool, kb_str_tuple, kb_str_list, kb_str_dict, kb_tuple_int, kb_tuple_str, kb_tuple_bool, kb_tuple_tuple, kb_tuple_list, kb_tuple_dict, kb_list_int, kb_list_str, kb_list_bool, kb_list_tuple, kb_list_list, kb_list_dict, kb_dict_int, kb_dict_str, kb_dict_bool, kb_dict_tuple, kb_dict_list, kb_dict_dict, fSl, e1, Int.reduceAdd]; exact s1) (h3 _ _ _ _ _)) ?_, ho3, p, q, x, y, _, _, ep, eq, x0, y0, x1, y1, rfl⟩
    simp only [List.cons_append, List.nil_append] at e2 e3
    simp only [loopD, h3, decide_true, if_true, gN, List.set_cons_succ, List.set_cons_zero, e2, e3]
theorem changed {bs : List Int} {many : Int} (ho : IsRow ns o) (hb : ByteL bs) (h0 : 0 < many) (h1 : many ≤ 100000) (hl : many = bs.length) :
    ∃ bs' o' g, F_law_changed [.ref 0, byD bs, .int many] (o :: r) = .ok (byD bs') (o' :: (r ++ g)) ∧ IsRow ns o' ∧ Chg bs bs' := by
  obtain ⟨s1, o1, e1, ho1, s10, s11⟩ := taken (r := r ++ [.lst (bs.map D.int)]) ho many h0 (by omega)
  obtain ⟨s2, o2, e2, ho2, s20, s21⟩ := taken (r := r ++ [.lst (bs.map D.int)]) ho1 many h0 (by omega)
  obtain ⟨p, rfl⟩ := Int.eq_ofNat_of_zero_le s10
  obtain ⟨q, rfl⟩ := Int.eq_ofNat_of_zero_le s20
  obtain ⟨bs', o3, g, x5, e3, ho3, hc⟩ := chg_loop (r := r) (x2 := some (.int many)) (x5 := none) (p := p) (q := q) ho2 hb (by omega) (by omega)
  refine ⟨bs', o3, .lst (bs'.map D.int) :: g, ?_, ho3, hc⟩
  have l1 : (o :: r).length = r.length + 1 := rfl
  have l2 : (o2 :: (r ++ [Mn.Obj.lst (bs.map D.int)])).length = r.length + 2 := by simp
  have a1 : o2 :: (r ++ [Mn.Obj.lst (bs.map D.int)]) ++ [.lst [.int (p : Int), .int (q : Int)]] = o2 :: (r ++ .lst (bs.map D.int) :: [.lst [.int (p : Int), .int (q : Int)]]) := by simp
  have t1 : gTupOf [.ref (r.length + 1)] (o3 :: (r ++ .lst (bs'.map D.int) :: g)) = .ok (byD bs') (o3 :: (r ++ .lst (bs'.map D.int) :: g)) := tup_ref at_mid
  unfold F_law_changed B_law_changed
  unfold cfor cbody cval at e3
  generalize (sFor _ _ _ : Mn.Env → Mem → Out) = Y at e3 ⊢
  have c1 : (fCall gLst2 (aCons (fVar 1) aNil)) [some (.ref 0), some (byD bs), some (.int many), none, none, none] (o :: r) = .ok (.ref (r.length + 1)) (o :: (r ++ [.lst (bs.map D.int)])) := rfl
  have c2 : (fLst (aCons (fCall F_law_taken (aCons (fVar 0) (aCons (fVar 2) aNil))) (aCons (fCall F_law_taken (aCons (fVar 0) (aCons (fVar 2) aNil))) aNil))) [some (.ref 0), some (byD bs), some (.int many), some (.ref (r.length + 1)), none, none] (o :: (r ++ [.lst (bs.map D.int)])) = .ok (.ref (r.length + 2)) (o2 :: (r ++ .lst (bs.map D.int) :: [.lst [.int (p : Int), .int (q : Int)]])) := by
    rw [← a1, ← l2]
    simp only [fLst, aCons, aNil, fCall, fVar, List.getElem?_cons_zero, List.getElem?_cons_succ, bd_ok, e1, e2, lst2]
  generalize fCall gLst2 (aCons (fVar 1) aNil) = C1 at c1 ⊢
  generalize fLst _ = C2 at c2 ⊢
  simp only [fnD, startE, List.map_cons, List.map_nil, List.length_cons, List.length_nil, List.replicate, List.cons_append, List.nil_append, Nat.reduceAdd, Nat.reduceSub, Nat.zero_add, sSeq, sSet, c1, rs_ok, List.set_cons_zero, List.set_cons_succ, c2, e3, sRet, fCall, aCons, aNil, fVar, List.getElem?_cons_zero, List.getElem?_cons_succ, bd_ok, t1]
end
end Pm
end
section
set_option Elab.async false
set_option linter.all false
set_option maxRecDepth 100000
set_option maxHeartbeats 4000000
open PySem L2 Mn Pk
namespace Pm
section
variable {m : Mem} {n : Nat} {d x : D} {o : Mn.Obj} {r : Mem} {ρ : Mn.Env} {ns : List Int}
theorem eq_word {s t : Str} {b : Bool} (h1 : PyData.strOk s = true) (h2 : PyData.strOk t = true) (h : decide (s = t) = b) : gEq (.str s) (.str t) m = .ok (.bl b) m := by rw [eqS h1 h2, h]
theorem w_blank_blank : gEq (.str "blank") (.str "blank") m = .ok (.bl true) m := eq_word (by decide +kernel) (by decide +kernel) (by decide +kernel)
theorem w_blank_head : gEq (.str "blank") (.str "head") m = .ok (.bl false) m := eq_word (by decide +kernel) (by decide +kernel) (by decide +kernel)
theorem w_blank_card : gEq (.str "blank") (.str "card") m = .ok (.bl false) m := eq_word (by decide +kernel) (by decide +kernel) (by decide +kernel)
theorem w_blank_tail : gEq (.str "blank") (.str "tail") m = .ok (.bl false) m := eq_word (by decide +kernel) (by decide +kernel) (by decide +kernel)
theorem w_head_blank : gEq (.str "head") (.str "blank") m = .ok (.bl false) m := eq_word (by decide +kernel) (by decide +kernel) (by decide +kernel)
theorem w_head_head : gEq (.str "head") (.str "head") m = .ok (.bl true) m := eq_word (by decide +kernel) (by decide +kernel) (by decide +kernel)
theorem w_head_card : gEq (.str "head") (.str "card") m = .ok (.bl false) m := eq_word (by decide +kernel) (by decide +kernel) (by decide +kernel)
theorem w_head_tail : gEq (.str "head") (.str "tail") m = .ok (.bl false) m := eq_word (by decide +kernel) (by decide +kernel) (by decide +kernel)
theorem w_tail_blank : gEq (.str "tail") (.str "blank") m = .ok (.bl false) m := eq_word (by decide +kernel) (by decide +kernel) (by decide +kernel)
theorem w_tail_head : gEq (.str "tail") (.str "head") m = .ok (.bl false) m := eq_word (by decide +kernel) (by decide +kernel) (by decide +kernel)
theorem w_tail_card : gEq (.str "tail") (.str "card") m = .ok (.bl false) m := eq_word (by decide +kernel) (by decide +kernel) (by decide +kernel)
theorem w_tail_tail : gEq (.str "tail") (.str "tail") m = .ok (.bl true) m := eq_word (by decide +kernel) (by decide +kernel) (by decide +kernel)
theorem w_data_blank : gEq (.str "data") (.str "blank") m = .ok (.bl false) m := eq_word (by decide +kernel) (by decide +kernel) (by decide +kernel)
theorem w_data_head : gEq (.str "data") (.str "head") m = .ok (.bl false) m := eq_word (by decide +kernel) (by decide +kernel) (by decide +kernel)
theorem w_data_card : gEq (.str "data") (.str "card") m = .ok (.bl false) m := eq_word (by decide +kernel) (by decide +kernel) (by decide +kernel)
theorem w_data_tail : gEq (.str "data") (.str "tail") m = .ok (.bl false) m := eq_word (by decide +kernel) (by decide +kernel) (by decide +kernel)
abbrev KVS : List (Str × D) := [("blank", .int 1), ("head", .int 5), ("card", .int 7), ("tail", .int 5), ("data", .int 5)]
theorem k_blank : lookS KVS "blank" = some (.int 1) := rfl
theorem k_head : lookS KVS "head" = some (.int 5) := rfl
theorem k_tail : lookS KVS "tail" = some (.int 5) := rfl
theorem k_data : lookS KVS "data" = some (.int 5) := rfl
theorem is_stamp {n : Int} : F_is_stamp [.int n] m = .ok (.bl (decide (0 ≤ n ∧ n ≤ 16777215))) m := by
  have h := is_number (m := m) (n := n) (a := 0) (b := 16777215)
  unfold F_is_stamp B_is_stamp
  simp only [fnD, startE, List.map_cons, List.map_nil, List.length_cons, List.length_nil, List.replicate, List.cons_append, List.nil_append, Nat.reduceAdd, Nat.reduceSub, Nat.zero_add, sSeq, sIf, sSet, sRet, sRetN, sPass, sExpr, sRaise, sBrk, sCnt, bd_ok, bd_ex, bd_bad, rs_ok, rs_ex, rs_bad, nx_ok, fVar, fC, f2, fCall, aCons, aNil, vAnd, vOr, vNot, fAnd, fOr, fNot, fTru, tr_non, tr_bl, tr_int, tr_tup, tr_rol, fBl, bl_b, fIf, fIsi, gIsi, isiB, ty_non, ty_bl, ty_int, ty_str, ty_tup, ty_rol, fChain, lf_gtI, lf_ltI, lf_leI, lf_geI, addI, subI, List.getElem?_cons_zero, List.getElem?_cons_succ, List.set_cons_zero, List.set_cons_succ, fTup, fLst, tup0, lst0, tup1, lst1, tup2, lst2, tup3, lst3, tup4, lst4, tup5, lst5, tup6, lst6, tup7, lst7, tup8, lst8, tup9, lst9, tup10, lst10, tup11, lst11, tup12, lst12, fNeg, oSome, oNone, Bool.not_true, Bool.not_false, Bool.false_eq_true, if_true, if_false, ite_true, ite_false, lf_int, lf_lenT, lf_lenO, lf_truB, fM1, sSetIx2, sPar, sPar3, kb_NoneType_int, kb_NoneType_str, kb_NoneType_bool, kb_NoneType_tuple, kb_NoneType_list, kb_NoneType_dict, kb_bool_int, kb_bool_str, kb_bool_bool, kb_bool_tuple, kb_bool_list, kb_bool_dict, kb_int_int, kb_int_str, kb_int_bool, kb_int_tuple, kb_int_list, kb_int_dict, kb_str_int, kb_str_str, kb_str_bool, kb_str_tuple, kb_str_list, kb_str_dict, kb_tuple_int, kb_tuple_str, kb_tuple_bool, kb_tuple_tuple, kb_tuple_list, kb_tuple_dict, kb_list_int, kb_list_str, kb_list_bool, kb_list_tuple, kb_list_list, kb_list_dict, kb_dict_int, kb_dict_str, kb_dict_bool, kb_dict_tuple, kb_dict_list, kb_dict_dict, h]
theorem is_thing {n : Int} : F_is_thing [.int n] m = .ok (.bl (decide (0 ≤ n ∧ n ≤ 23))) m := by
  have h := is_number (m := m) (n := n) (a := 0) (b := 23)
  unfold F_is_thing B_is_thing
  simp only [fnD, startE, List.map_cons, List.map_nil, List.length_cons, List.length_nil, List.replicate, List.cons_append, List.nil_append, Nat.reduceAdd, Nat.reduceSub, Nat.zero_add, sSeq, sIf, sSet, sRet, sRetN, sPass, sExpr, sRaise, sBrk, sCnt, bd_ok, bd_ex, bd_bad, rs_ok, rs_ex, rs_bad, nx_ok, fVar, fC, f2, fCall, aCons, aNil, vAnd, vOr, vNot, fAnd, fOr, fNot, fTru, tr_non, tr_bl, tr_int, tr_tup, tr_rol, fBl, bl_b, fIf, fIsi, gIsi, isiB, ty_non, ty_bl, ty_int, ty_str, ty_tup, ty_rol, fChain, lf_gtI, lf_ltI, lf_leI, lf_geI, addI, subI, List.getElem?_cons_zero, List.getElem?_cons_succ, List.set_cons_zero, List.set_cons_succ, fTup, fLst, tup0, lst0, tup1, lst1, tup2, lst2, tup3, lst3, tup4, lst4, tup5, lst5, tup6, lst6, tup7, lst7, tup8, lst8, tup9, lst9, tup10, lst10, tup11, lst11, tup12, lst12, fNeg, oSome, oNone, Bool.not_true, Bool.not_false, Bool.false_eq_true, if_true, if_false, ite_true, ite_false, lf_int, lf_lenT, lf_lenO, lf_truB, fM1, sSetIx2, sPar, sPar3, kb_NoneType_int, kb_NoneType_str, kb_NoneType_bool, kb_NoneType_tuple, kb_NoneType_list, kb_NoneType_dict, kb_bool_int, kb_bool_str, kb_bool_bool, kb_bool_tuple, kb_bool_list, kb_bool_dict, kb_int_int, kb_int_str, kb_int_bool, kb_int_tuple, kb_int_list, kb_int_dict, kb_str_int, kb_str_str, kb_str_bool, kb_str_tuple, kb_str_list, kb_str_dict, kb_tuple_int, kb_tuple_str, kb_tuple_bool, kb_tuple_tuple, kb_tuple_list, kb_tuple_dict, kb_list_int, kb_list_str, kb_list_bool, kb_list_tuple, kb_list_list, kb_list_dict, kb_dict_int, kb_dict_str, kb_dict_bool, kb_dict_tuple, kb_dict_list, kb_dict_dict, Int.reduceSub, h]
theorem len_by {bs : List Int} : gLen [byD bs] m = .ok (.int bs.length) m := by rw [byD, lf_lenT, List.length_map]
theorem are_bytes {bs : List Int} {k : Int} (h : ByteL bs) (hk : (bs.length : Int) = k) : F_are_bytes [byD bs, .int k] m = .ok (.bl true) m := by
  have e1 := is_bytes (m := m) h (k := k) (by omega)
  have e2 : gEq (.int (bs.length : Int)) (.int k) m = .ok (.bl true) m := by rw [eqI, decide_eq_true hk]
  unfold F_are_bytes B_are_bytes
  simp only [byD] at e1
  simp only [fnD, startE, List.map_cons, List.map_nil, List.length_cons, List.length_nil, List.replicate, List.cons_append, List.nil_append, Nat.reduceAdd, Nat.reduceSub, Nat.zero_add, sSeq, sIf, sSet, sRet, sRetN, sPass, sExpr, sRaise, sBrk, sCnt, bd_ok, bd_ex, bd_bad, rs_ok, rs_ex, rs_bad, nx_ok, fVar, fC, f2, fCall, aCons, aNil, vAnd, vOr, vNot, fAnd, fOr, fNot, fTru, tr_non, tr_bl, tr_int, tr_tup, tr_rol, fBl, bl_b, fIf, fIsi, gIsi, isiB, ty_non, ty_bl, ty_int, ty_str, ty_tup, ty_rol, fChain, lf_gtI, lf_ltI, lf_leI, lf_geI, addI, subI, List.getElem?_cons_zero, List.getElem?_cons_succ, List.set_cons_zero, List.set_cons_succ, fTup, fLst, tup0, lst0, tup1, lst1, tup2, lst2, tup3, lst3, tup4, lst4, tup5, lst5, tup6, lst6, tup7, lst7, tup8, lst8, tup9, lst9, tup10, lst10, tup11, lst11, tup12, lst12, fNeg, oSome, oNone, Bool.not_true, Bool.not_false, Bool.false_eq_true, if_true, if_false, ite_true, ite_false, lf_int, lf_lenT, lf_lenO, lf_truB, fM1, sSetIx2, sPar, sPar3, kb_NoneType_int, kb_NoneType_str, kb_NoneType_bool, kb_NoneType_tuple, kb_NoneType_list, kb_NoneType_dict, kb_bool_int, kb_bool_str, kb_bool_bool, kb_bool_tuple, kb_bool_list, kb_bool_dict, kb_int_int, kb_int_str, kb_int_bool, kb_int_tuple, kb_int_list, kb_int_dict, kb_str_int, kb_str_str, kb_str_bool, kb_str_tuple, kb_str_list, kb_str_dict, kb_tuple_int, kb_tuple_str, kb_tuple_bool, kb_tuple_tuple, kb_tuple_list, kb_tuple_dict, kb_list_int, kb_list_str, kb_list_bool, kb_list_tuple, kb_list_list, kb_list_dict, kb_dict_int, kb_dict_str, kb_dict_bool, kb_dict_tuple, kb_dict_list, kb_dict_dict, e1, len_by, e2, List.length_map]
theorem repZ {k : Int} (h : 2 ≤ k ∨ k ≤ 0) (h1 : k ≤ 1000) (h2 : -1000 ≤ k) : gMul2 (.tup [.int 0]) (.int k) m = .ok (byD (List.replicate k.toNat 0)) m := by
  unfold gMul2
  simp only
  rw [if_pos ⟨(fun z => by cases z), h, h1, h2, by show 1 ≤ 1000; decide⟩]
  have : ∀ n : Nat, (List.replicate n [D.int 0]).flatten = (List.replicate n (0 : Int)).map D.int := by
    intro n
    induction n with
    | zero => rfl
    | succ n ih => rw [List.replicate_succ, List.flatten_cons, ih]; rfl
  rw [this, byD]
theorem sl_by {w : List Int} {a b : Nat} {A B : Int} (hA : A = (a : Int)) (hB : B = (b : Int)) (h : b ≤ w.length) : gSl (byD w) (some A) (some B) m = .ok (byD ((w.drop a).take (b - a))) m := by
  subst hA hB
  rw [byD, lf_slT]
  unfold cutD
  rw [HT.sIx_nat, HT.sIx_nat, List.length_map]
  by_cases hab : a ≤ w.length
  · rw [Nat.min_eq_left h, Nat.min_eq_left hab, ← List.map_drop, ← List.map_take]
  · rw [Nat.min_eq_left h, show b - min a w.length = 0 by omega, show b - a = 0 by omega, List.take_zero, List.take_zero]; rfl
theorem sl_pre {w : List Int} {b : Nat} {B : Int} (hB : B = (b : Int)) (h : b ≤ w.length) : gSl (byD w) none (some B) m = .ok (byD (w.take b)) m := by
  subst hB
  rw [byD, lf_slT]
  unfold cutD
  have a0 : HT.sIx (w.map D.int).length 0 none = 0 := rfl
  rw [HT.sIx_nat, a0, List.length_map, Nat.min_eq_left h, List.drop_zero, Nat.sub_zero, ← List.map_take]
def pad (os : List Int) : List Int := os ++ List.replicate (60 - os.length) 0
theorem pad_len {os : List Int} (h : os.length ≤ 60) : (pad os).length = 60 := by
  unfold pad
  rw [List.length_append, List.length_replicate]
  omega
theorem pad_byte {os : List Int} (h : ByteL os) : ByteL (pad os) := fun b hb => by
  rcases List.mem_append.mp hb with hb | hb
  · exact h b hb
  · rw [(List.mem_replicate.mp hb).2]; decide
theorem page_by {t : D} {os : List Int} {g0 : Mem} (h : F_told_octets [t] m = .ok (byD os) (m ++ g0)) (hl : os.length ≤ 60) (h9 : os.length ≠ 59) : ∃ g, F_page_by [t] m = .ok (byD (wchk (pad os))) (m ++ g) := by
  obtain ⟨g, e⟩ := octets_with_check (m := m ++ g0) (bs := pad os) (by rw [pad_len hl]; decide)
  have z := repZ (m := m ++ g0) (k := 60 - (os.length : Int)) (by omega) (by omega) (by omega)
  rw [show (60 - (os.length : Int)).toNat = 60 - os.length by omega] at z
  have a : gAdd (byD os) (byD (List.replicate (60 - os.length) 0)) (m ++ g0) = .ok (byD (pad os)) (m ++ g0) := by
    rw [byD, byD, add_tup (by rw [List.length_map, List.length_map, List.length_replicate]; omega), ← List.map_append, pad]
  refine ⟨g0 ++ g, ?_⟩
  have l := len_by (m := m ++ g0) (bs := os)
  unfold F_page_by B_page_by
  simp only [byD] at h z a e l ⊢
  simp only [fnD, startE, List.map_cons, List.map_nil, List.length_cons, List.length_nil, List.replicate, List.cons_append, List.nil_append, Nat.reduceAdd, Nat.reduceSub, Nat.zero_add, sSeq, sIf, sSet, sRet, sRetN, sPass, sExpr, sRaise, sBrk, sCnt, bd_ok, bd_ex, bd_bad, rs_ok, rs_ex, rs_bad, nx_ok, fVar, fC, f2, fCall, aCons, aNil, vAnd, vOr, vNot, fAnd, fOr, fNot, fTru, tr_non, tr_bl, tr_int, tr_tup, tr_rol, fBl, bl_b, fIf, fIsi, gIsi, isiB, ty_non, ty_bl, ty_int, ty_str, ty_tup, ty_rol, fChain, lf_gtI, lf_ltI, lf_leI, lf_geI, addI, subI, List.getElem?_cons_zero, List.getElem?_cons_succ, List.set_cons_zero, List.set_cons_succ, fTup, fLst, tup0, lst0, tup1, lst1, tup2, lst2, tup3, lst3, tup4, lst4, tup5, lst5, tup6, lst6, tup7, lst7, tup8, lst8, tup9, lst9, tup10, lst10, tup11, lst11, tup12, lst12, fNeg, oSome, oNone, Bool.not_true, Bool.not_false, Bool.false_eq_true, if_true, if_false, ite_true, ite_false, lf_int, lf_lenT, lf_lenO, lf_truB, fM1, sSetIx2, sPar, sPar3, kb_NoneType_int, kb_NoneType_str, kb_NoneType_bool, kb_NoneType_tuple, kb_NoneType_list, kb_NoneType_dict, kb_bool_int, kb_bool_str, kb_bool_bool, kb_bool_tuple, kb_bool_list, kb_bool_dict, kb_int_int, kb_int_str, kb_int_bool, kb_int_tuple, kb_int_list, kb_int_dict, kb_str_int, kb_str_str, kb_str_bool, kb_str_tuple, kb_str_list, kb_str_dict, kb_tuple_int, kb_tuple_str, kb_tuple_bool, kb_tuple_tuple, kb_tuple_list, kb_tuple_dict, kb_list_int, kb_list_str, kb_list_bool, kb_list_tuple, kb_list_list, kb_list_dict, kb_dict_int, kb_dict_str, kb_dict_bool, kb_dict_tuple, kb_dict_list, kb_dict_dict, List.length_map, h, l, z, a, e, List.append_assoc]
/-! ### what tells a page -/
abbrev badD : D := .tup [.str "bad"]
structure Told (t : D) (os : List Int) : Prop where
  told : ∀ m, F_is_told [t] m = .ok (.bl true) m
  octs : ∀ m, ∃ g, F_told_octets [t] m = .ok (byD os) (m ++ g)
  len : os.length ≤ 60
  len9 : os.length ≠ 59
  byte : ByteL os
  guess : ∀ m, ∃ g, F_guessed [byD (wchk (pad os))] m = .ok t (m ++ g)
  ne : ∀ m, gNe t badD m = .ok (.bl true) m
def pageOf (os : List Int) : List Int := wchk (pad os)
theorem page_len {os : List Int} (h : os.length ≤ 60) : (pageOf os).length = 64 := by rw [pageOf, wchk_len, pad_len h]
theorem page_byte {os : List Int} (h : ByteL os) : ByteL (pageOf os) := wchk_byte (pad_byte h)
theorem page_take {os : List Int} (h : os.length ≤ 60) : (pageOf os).take 60 = pad os := by
  rw [pageOf, wchk, List.take_append_of_le_length (by rw [pad_len h]; decide), List.take_of_length_le (by rw [pad_len h]; decide)]
theorem written {t : D} {os : List Int} (T : Told t os) : ∃ g, F_written_page [t] m = .ok (byD (pageOf os)) (m ++ g) := by
  obtain ⟨g0, e0⟩ := T.octs m
  obtain ⟨g, e⟩ := page_by e0 T.len T.len9
  refine ⟨g, ?_⟩
  have h := T.told m
  unfold F_written_page B_written_page
  simp only [fnD, startE, List.map_cons, List.map_nil, List.length_cons, List.length_nil, List.replicate, List.cons_append, List.nil_append, Nat.reduceAdd, Nat.reduceSub, Nat.zero_add, sSeq, sIf, sSet, sRet, sRetN, sPass, sExpr, sRaise, sBrk, sCnt, bd_ok, bd_ex, bd_bad, rs_ok, rs_ex, rs_bad, nx_ok, fVar, fC, f2, fCall, aCons, aNil, vAnd, vOr, vNot, fAnd, fOr, fNot, fTru, tr_non, tr_bl, tr_int, tr_tup, tr_rol, fBl, bl_b, fIf, fIsi, gIsi, isiB, ty_non, ty_bl, ty_int, ty_str, ty_tup, ty_rol, fChain, lf_gtI, lf_ltI, lf_leI, lf_geI, addI, subI, List.getElem?_cons_zero, List.getElem?_cons_succ, List.set_cons_zero, List.set_cons_succ, fTup, fLst, tup0, lst0, tup1, lst1, tup2, lst2, tup3, lst3, tup4, lst4, tup5, lst5, tup6, lst6, tup7, lst7, tup8, lst8, tup9, lst9, tup10, lst10, tup11, lst11, tup12, lst12, fNeg, oSome, oNone, Bool.not_true, Bool.not_false, Bool.false_eq_true, if_true, if_false, ite_true, ite_false, lf_int, lf_lenT, lf_lenO, lf_truB, fM1, sSetIx2, sPar, sPar3, kb_NoneType_int, kb_NoneType_str, kb_NoneType_bool, kb_NoneType_tuple, kb_NoneType_list, kb_NoneType_dict, kb_bool_int, kb_bool_str, kb_bool_bool, kb_bool_tuple, kb_bool_list, kb_bool_dict, kb_int_int, kb_int_str, kb_int_bool, kb_int_tuple, kb_int_list, kb_int_dict, kb_str_int, kb_str_str, kb_str_bool, kb_str_tuple, kb_str_list, kb_str_dict, kb_tuple_int, kb_tuple_str, kb_tuple_bool, kb_tuple_tuple, kb_tuple_list, kb_tuple_dict, kb_list_int, kb_list_str, kb_list_bool, kb_list_tuple, kb_list_list, kb_list_dict, kb_dict_int, kb_dict_str, kb_dict_bool, kb_dict_tuple, kb_dict_list, kb_dict_dict, h, e]
  rfl
theorem is_page {w : List Int} (h : ByteL w) (hl : w.length = 64) : F_is_page [byD w] m = .ok (.bl true) m := by
  have e1 := is_bytes (m := m) h (k := 64) (by omega)
  have e2 : gEq (.int (w.length : Int)) (.int 64) m = .ok (.bl true) m := by rw [eqI, hl]; rfl
  have e3 : gIsN (byD w) .non m = .ok (.bl false) m := isN_no (fun z => by cases z)
  have l := len_by (m := m) (bs := w)
  unfold F_is_page B_is_page
  simp only [byD] at e1 e3 l ⊢
  simp only [fnD, startE, List.map_cons, List.map_nil, List.length_cons, List.length_nil, List.replicate, List.cons_append, List.nil_append, Nat.reduceAdd, Nat.reduceSub, Nat.zero_add, sSeq, sIf, sSet, sRet, sRetN, sPass, sExpr, sRaise, sBrk, sCnt, bd_ok, bd_ex, bd_bad, rs_ok, rs_ex, rs_bad, nx_ok, fVar, fC, f2, fCall, aCons, aNil, vAnd, vOr, vNot, fAnd, fOr, fNot, fTru, tr_non, tr_bl, tr_int, tr_tup, tr_rol, fBl, bl_b, fIf, fIsi, gIsi, isiB, ty_non, ty_bl, ty_int, ty_str, ty_tup, ty_rol, fChain, lf_gtI, lf_ltI, lf_leI, lf_geI, addI, subI, List.getElem?_cons_zero, List.getElem?_cons_succ, List.set_cons_zero, List.set_cons_succ, fTup, fLst, tup0, lst0, tup1, lst1, tup2, lst2, tup3, lst3, tup4, lst4, tup5, lst5, tup6, lst6, tup7, lst7, tup8, lst8, tup9, lst9, tup10, lst10, tup11, lst11, tup12, lst12, fNeg, oSome, oNone, Bool.not_true, Bool.not_false, Bool.false_eq_true, if_true, if_false, ite_true, ite_false, lf_int, lf_lenT, lf_lenO, lf_truB, fM1, sSetIx2, sPar, sPar3, kb_NoneType_int, kb_NoneType_str, kb_NoneType_bool, kb_NoneType_tuple, kb_NoneType_list, kb_NoneType_dict, kb_bool_int, kb_bool_str, kb_bool_bool, kb_bool_tuple, kb_bool_list, kb_bool_dict, kb_int_int, kb_int_str, kb_int_bool, kb_int_tuple, kb_int_list, kb_int_dict, kb_str_int, kb_str_str, kb_str_bool, kb_str_tuple, kb_str_list, kb_str_dict, kb_tuple_int, kb_tuple_str, kb_tuple_bool, kb_tuple_tuple, kb_tuple_list, kb_tuple_dict, kb_list_int, kb_list_str, kb_list_bool, kb_list_tuple, kb_list_list, kb_list_dict, kb_dict_int, kb_dict_str, kb_dict_bool, kb_dict_tuple, kb_dict_list, kb_dict_dict, List.length_map, e1, l, e2, e3]
theorem page_none : F_is_page [.non] m = .ok (.bl true) m := by
  have e3 : gIsN .non .non m = .ok (.bl true) m := rfl
  unfold F_is_page B_is_page
  simp only [fnD, startE, List.map_cons, List.map_nil, List.length_cons, List.length_nil, List.replicate, List.cons_append, List.nil_append, Nat.reduceAdd, Nat.reduceSub, Nat.zero_add, sSeq, sIf, sSet, sRet, sRetN, sPass, sExpr, sRaise, sBrk, sCnt, bd_ok, bd_ex, bd_bad, rs_ok, rs_ex, rs_bad, nx_ok, fVar, fC, f2, fCall, aCons, aNil, vAnd, vOr, vNot, fAnd, fOr, fNot, fTru, tr_non, tr_bl, tr_int, tr_tup, tr_rol, fBl, bl_b, fIf, fIsi, gIsi, isiB, ty_non, ty_bl, ty_int, ty_str, ty_tup, ty_rol, fChain, lf_gtI, lf_ltI, lf_leI, lf_geI, addI, subI, List.getElem?_cons_zero, List.getElem?_cons_succ, List.set_cons_zero, List.set_cons_succ, fTup, fLst, tup0, lst0, tup1, lst1, tup2, lst2, tup3, lst3, tup4, lst4, tup5, lst5, tup6, lst6, tup7, lst7, tup8, lst8, tup9, lst9, tup10, lst10, tup11, lst11, tup12, lst12, fNeg, oSome, oNone, Bool.not_true, Bool.not_false, Bool.false_eq_true, if_true, if_false, ite_true, ite_false, lf_int, lf_lenT, lf_lenO, lf_truB, fM1, sSetIx2, sPar, sPar3, kb_NoneType_int, kb_NoneType_str, kb_NoneType_bool, kb_NoneType_tuple, kb_NoneType_list, kb_NoneType_dict, kb_bool_int, kb_bool_str, kb_bool_bool, kb_bool_tuple, kb_bool_list, kb_bool_dict, kb_int_int, kb_int_str, kb_int_bool, kb_int_tuple, kb_int_list, kb_int_dict, kb_str_int, kb_str_str, kb_str_bool, kb_str_tuple, kb_str_list, kb_str_dict, kb_tuple_int, kb_tuple_str, kb_tuple_bool, kb_tuple_tuple, kb_tuple_list, kb_tuple_dict, kb_list_int, kb_list_str, kb_list_bool, kb_list_tuple, kb_list_list, kb_list_dict, kb_dict_int, kb_dict_str, kb_dict_bool, kb_dict_tuple, kb_dict_list, kb_dict_dict, e3]
def blankL : List D := (List.replicate 64 (0 : Int)).map D.int
theorem told_none : F_told_page [.non] m = .ok badD m := by
  have e1 : gIsN .non .non m = .ok (.bl true) m := rfl
  have e2 : gEq .non (.tup blankL) m = .ok (.bl false) m := by
    unfold gEq blankL
    simp only [pyM, pyD, pyL_ints, shaped_ints, show SeqAt.shaped PyData.none = true from rfl, Bool.and_self, if_true, PyData.eqv]
  have e3 : F_told_by [.non] m = .ok badD m := by
    unfold F_told_by B_told_by
    rw [show ([D.int 0, .int 0, .int 0, .int 0, .int 0, .int 0, .int 0, .int 0, .int 0, .int 0, .int 0, .int 0, .int 0, .int 0, .int 0, .int 0, .int 0, .int 0, .int 0, .int 0, .int 0, .int 0, .int 0, .int 0, .int 0, .int 0, .int 0, .int 0, .int 0, .int 0, .int 0, .int 0, .int 0, .int 0, .int 0, .int 0, .int 0, .int 0, .int 0, .int 0, .int 0, .int 0, .int 0, .int 0, .int 0, .int 0, .int 0, .int 0, .int 0, .int 0, .int 0, .int 0, .int 0, .int 0, .int 0, .int 0, .int 0, .int 0, .int 0, .int 0, .int 0, .int 0, .int 0, .int 0] : List D) = blankL from rfl]
    simp only [fnD, startE, List.map_cons, List.map_nil, List.length_cons, List.length_nil, List.replicate, List.cons_append, List.nil_append, Nat.reduceAdd, Nat.reduceSub, Nat.zero_add, sSeq, sIf, sSet, sRet, sRetN, sPass, sExpr, sRaise, sBrk, sCnt, bd_ok, bd_ex, bd_bad, rs_ok, rs_ex, rs_bad, nx_ok, fVar, fC, f2, fCall, aCons, aNil, vAnd, vOr, vNot, fAnd, fOr, fNot, fTru, tr_non, tr_bl, tr_int, tr_tup, tr_rol, fBl, bl_b, fIf, fIsi, gIsi, isiB, ty_non, ty_bl, ty_int, ty_str, ty_tup, ty_rol, fChain, lf_gtI, lf_ltI, lf_leI, lf_geI, addI, subI, List.getElem?_cons_zero, List.getElem?_cons_succ, List.set_cons_zero, List.set_cons_succ, fTup, fLst, tup0, lst0, tup1, lst1, tup2, lst2, tup3, lst3, tup4, lst4, tup5, lst5, tup6, lst6, tup7, lst7, tup8, lst8, tup9, lst9, tup10, lst10, tup11, lst11, tup12, lst12, fNeg, oSome, oNone, Bool.not_true, Bool.not_false, Bool.false_eq_true, if_true, if_false, ite_true, ite_false, lf_int, lf_lenT, lf_lenO, lf_truB, fM1, sSetIx2, sPar, sPar3, kb_NoneType_int, kb_NoneType_str, kb_NoneType_bool, kb_NoneType_tuple, kb_NoneType_list, kb_NoneType_dict, kb_bool_int, kb_bool_str, kb_bool_bool, kb_bool_tuple, kb_bool_list, kb_bool_dict, kb_int_int, kb_int_str, kb_int_bool, kb_int_tuple, kb_int_list, kb_int_dict, kb_str_int, kb_str_str, kb_str_bool, kb_str_tuple, kb_str_list, kb_str_dict, kb_tuple_int, kb_tuple_str, kb_tuple_bool, kb_tuple_tuple, kb_tuple_list, kb_tuple_dict, kb_list_int, kb_list_str, kb_list_bool, kb_list_tuple, kb_list_list, kb_list_dict, kb_dict_int, kb_dict_str, kb_dict_bool, kb_dict_tuple, kb_dict_list, kb_dict_dict, e2, e1]
  unfold F_told_page B_told_page
  simp only [fnD, startE, List.map_cons, List.map_nil, List.length_cons, List.length_nil, List.replicate, List.cons_append, List.nil_append, Nat.reduceAdd, Nat.reduceSub, Nat.zero_add, sSeq, sIf, sSet, sRet, sRetN, sPass, sExpr, sRaise, sBrk, sCnt, bd_ok, bd_ex, bd_bad, rs_ok, rs_ex, rs_bad, nx_ok, fVar, fC, f2, fCall, aCons, aNil, vAnd, vOr, vNot, fAnd, fOr, fNot, fTru, tr_non, tr_bl, tr_int, tr_tup, tr_rol, fBl, bl_b, fIf, fIsi, gIsi, isiB, ty_non, ty_bl, ty_int, ty_str, ty_tup, ty_rol, fChain, lf_gtI, lf_ltI, lf_leI, lf_geI, addI, subI, List.getElem?_cons_zero, List.getElem?_cons_succ, List.set_cons_zero, List.set_cons_succ, fTup, fLst, tup0, lst0, tup1, lst1, tup2, lst2, tup3, lst3, tup4, lst4, tup5, lst5, tup6, lst6, tup7, lst7, tup8, lst8, tup9, lst9, tup10, lst10, tup11, lst11, tup12, lst12, fNeg, oSome, oNone, Bool.not_true, Bool.not_false, Bool.false_eq_true, if_true, if_false, ite_true, ite_false, lf_int, lf_lenT, lf_lenO, lf_truB, fM1, sSetIx2, sPar, sPar3, kb_NoneType_int, kb_NoneType_str, kb_NoneType_bool, kb_NoneType_tuple, kb_NoneType_list, kb_NoneType_dict, kb_bool_int, kb_bool_str, kb_bool_bool, kb_bool_tuple, kb_bool_list, kb_bool_dict, kb_int_int, kb_int_str, kb_int_bool, kb_int_tuple, kb_int_list, kb_int_dict, kb_str_int, kb_str_str, kb_str_bool, kb_str_tuple, kb_str_list, kb_str_dict, kb_tuple_int, kb_tuple_str, kb_tuple_bool, kb_tuple_tuple, kb_tuple_list, kb_tuple_dict, kb_list_int, kb_list_str, kb_list_bool, kb_list_tuple, kb_list_list, kb_list_dict, kb_dict_int, kb_dict_str, kb_dict_bool, kb_dict_tuple, kb_dict_list, kb_dict_dict, page_none, e3]
/-- a row of 64 bytes that isn't a page of 60 with its check bytes -/
theorem told_bad {w : List Int} (h : ByteL w) (hl : w.length = 64) (hn : w ≠ wchk (w.take 60)) (hz : w ≠ List.replicate 64 0) : ∃ g, F_told_page [byD w] m = .ok badD (m ++ g) := by
  obtain ⟨g, e⟩ := octets_with_check (m := m) (bs := w.take 60) (by rw [List.length_take]; omega)
  have e1 : gIsN (byD w) .non m = .ok (.bl false) m := isN_no (fun z => by cases z)
  have e2 : gEq (byD w) (.tup blankL) m = .ok (.bl false) m := by rw [show (D.tup blankL) = byD (List.replicate 64 0) from rfl, eqBy, decide_eq_false hz]
  have e4 : gNe (byD w) (byD (wchk (w.take 60))) (m ++ g) = .ok (.bl true) (m ++ g) := by rw [neBy, decide_eq_false hn]; rfl
  have e5 := sl_pre (m := m) (w := w) (b := 60) (B := 60) rfl (by omega)
  have e3 : F_told_by [byD w] m = .ok badD (m ++ g) := by
    unfold F_told_by B_told_by
    rw [show ([D.int 0, .int 0, .int 0, .int 0, .int 0, .int 0, .int 0, .int 0, .int 0, .int 0, .int 0, .int 0, .int 0, .int 0, .int 0, .int 0, .int 0, .int 0, .int 0, .int 0, .int 0, .int 0, .int 0, .int 0, .int 0, .int 0, .int 0, .int 0, .int 0, .int 0, .int 0, .int 0, .int 0, .int 0, .int 0, .int 0, .int 0, .int 0, .int 0, .int 0, .int 0, .int 0, .int 0, .int 0, .int 0, .int 0, .int 0, .int 0, .int 0, .int 0, .int 0, .int 0, .int 0, .int 0, .int 0, .int 0, .int 0, .int 0, .int 0, .int 0, .int 0, .int 0, .int 0, .int 0] : List D) = blankL from rfl]
    simp only [byD] at e e1 e2 e4 e5 ⊢
    simp only [fnD, startE, List.map_cons, List.map_nil, List.length_cons, List.length_nil, List.replicate, List.cons_append, List.nil_append, Nat.reduceAdd, Nat.reduceSub, Nat.zero_add, sSeq, sIf, sSet, sRet, sRetN, sPass, sExpr, sRaise, sBrk, sCnt, bd_ok, bd_ex, bd_bad, rs_ok, rs_ex, rs_bad, nx_ok, fVar, fC, f2, fCall, aCons, aNil, vAnd, vOr, vNot, fAnd, fOr, fNot, fTru, tr_non, tr_bl, tr_int, tr_tup, tr_rol, fBl, bl_b, fIf, fIsi, gIsi, isiB, ty_non, ty_bl, ty_int, ty_str, ty_tup, ty_rol, fChain, lf_gtI, lf_ltI, lf_leI, lf_geI, addI, subI, List.getElem?_cons_zero, List.getElem?_cons_succ, List.set_cons_zero, List.set_cons_succ, fTup, fLst, tup0, lst0, tup1, lst1, tup2, lst2, tup3, lst3, tup4, lst4, tup5, lst5, tup6, lst6, tup7, lst7, tup8, lst8, tup9, lst9, tup10, lst10, tup11, lst11, tup12, lst12, fNeg, oSome, oNone, Bool.not_true, Bool.not_false, Bool.false_eq_true, if_true, if_false, ite_true, ite_false, lf_int, lf_lenT, lf_lenO, lf_truB, fM1, sSetIx2, sPar, sPar3, kb_NoneType_int, kb_NoneType_str, kb_NoneType_bool, kb_NoneType_tuple, kb_NoneType_list, kb_NoneType_dict, kb_bool_int, kb_bool_str, kb_bool_bool, kb_bool_tuple, kb_bool_list, kb_bool_dict, kb_int_int, kb_int_str, kb_int_bool, kb_int_tuple, kb_int_list, kb_int_dict, kb_str_int, kb_str_str, kb_str_bool, kb_str_tuple, kb_str_list, kb_str_dict, kb_tuple_int, kb_tuple_str, kb_tuple_bool, kb_tuple_tuple, kb_tuple_list, kb_tuple_dict, kb_list_int, kb_list_str, kb_list_bool, kb_list_tuple, kb_list_list, kb_list_dict, kb_dict_int, kb_dict_str, kb_dict_bool, kb_dict_tuple, kb_dict_list, kb_dict_dict, fSl, e2, e1, e5, e, e4]
  refine ⟨g, ?_⟩
  have p := is_page (m := m) h hl
  unfold F_told_page B_told_page
  simp only [byD] at e3 p ⊢
  simp only [fnD, startE, List.map_cons, List.map_nil, List.length_cons, List.length_nil, List.replicate, List.cons_append, List.nil_append, Nat.reduceAdd, Nat.reduceSub, Nat.zero_add, sSeq, sIf, sSet, sRet, sRetN, sPass, sExpr, sRaise, sBrk, sCnt, bd_ok, bd_ex, bd_bad, rs_ok, rs_ex, rs_bad, nx_ok, fVar, fC, f2, fCall, aCons, aNil, vAnd, vOr, vNot, fAnd, fOr, fNot, fTru, tr_non, tr_bl, tr_int, tr_tup, tr_rol, fBl, bl_b, fIf, fIsi, gIsi, isiB, ty_non, ty_bl, ty_int, ty_str, ty_tup, ty_rol, fChain, lf_gtI, lf_ltI, lf_leI, lf_geI, addI, subI, List.getElem?_cons_zero, List.getElem?_cons_succ, List.set_cons_zero, List.set_cons_succ, fTup, fLst, tup0, lst0, tup1, lst1, tup2, lst2, tup3, lst3, tup4, lst4, tup5, lst5, tup6, lst6, tup7, lst7, tup8, lst8, tup9, lst9, tup10, lst10, tup11, lst11, tup12, lst12, fNeg, oSome, oNone, Bool.not_true, Bool.not_false, Bool.false_eq_true, if_true, if_false, ite_true, ite_false, lf_int, lf_lenT, lf_lenO, lf_truB, fM1, sSetIx2, sPar, sPar3, kb_NoneType_int, kb_NoneType_str, kb_NoneType_bool, kb_NoneType_tuple, kb_NoneType_list, kb_NoneType_dict, kb_bool_int, kb_bool_str, kb_bool_bool, kb_bool_tuple, kb_bool_list, kb_bool_dict, kb_int_int, kb_int_str, kb_int_bool, kb_int_tuple, kb_int_list, kb_int_dict, kb_str_int, kb_str_str, kb_str_bool, kb_str_tuple, kb_str_list, kb_str_dict, kb_tuple_int, kb_tuple_str, kb_tuple_bool, kb_tuple_tuple, kb_tuple_list, kb_tuple_dict, kb_list_int, kb_list_str, kb_list_bool, kb_list_tuple, kb_list_list, kb_list_dict, kb_dict_int, kb_dict_str, kb_dict_bool, kb_dict_tuple, kb_dict_list, kb_dict_dict, p, e3]
theorem zero_page : List.replicate 64 (0 : Int) = wchk (List.replicate 60 0) := by decide
/-- a page in which one or two bytes are changed -/
theorem told_changed {os w : List Int} (hb : ByteL os) (hl : os.length ≤ 60) (h : Chg (pageOf os) w) : ∃ g, F_told_page [byD w] m = .ok badD (m ++ g) := by
  have wl : w.length = 64 := by rw [h.len, page_len hl]
  have pl := pad_len hl
  refine told_bad (h.byte (page_byte hb)) wl (fun e => far (pad_byte hb) (by omega) h e (by rw [List.length_take]; omega)) fun e => ?_
  exact far (pad_byte hb) (by omega) h (e.trans zero_page) (by rw [List.length_replicate]; omega)
theorem ne_word {s : Str} {ds : List D} {ps : List PyData} (hp : pyL ds = some ps) (hs : SeqAt.shaped (.tuple (.str s :: ps)) = true) (hne : s ≠ "bad") : gNe (.tup (.str s :: ds)) badD m = .ok (.bl true) m := by
  have hb : SeqAt.shaped (.tuple [.str "bad"]) = true := by decide +kernel
  unfold gNe
  simp only [pyM, pyD, pyL, hp, hs, hb, Bool.and_self, if_true, PyData.eqv, PyData.eqvAll]
  simp [hne]
theorem ne_blank : gNe (.tup [.str "blank"]) badD m = .ok (.bl true) m := ne_word (ps := []) rfl (by decide +kernel) (by decide +kernel)
/-- a page that was written tells itself -/
theorem told_good {t : D} {os : List Int} (T : Told t os) : ∃ d g, F_told_page [byD (pageOf os)] m = .ok d (m ++ g) ∧ ∀ m, gNe d badD m = .ok (.bl true) m := by
  have wl := page_len T.len
  have wb := page_byte T.byte
  have p := is_page (m := m) wb wl
  suffices H : ∃ d g, F_told_by [byD (pageOf os)] m = .ok d (m ++ g) ∧ ∀ m, gNe d badD m = .ok (.bl true) m by
    obtain ⟨d, g, e3, hd⟩ := H
    refine ⟨d, g, ?_, hd⟩
    unfold F_told_page B_told_page
    simp only [byD] at e3 p ⊢
    simp only [fnD, startE, List.map_cons, List.map_nil, List.length_cons, List.length_nil, List.replicate, List.cons_append, List.nil_append, Nat.reduceAdd, Nat.reduceSub, Nat.zero_add, sSeq, sIf, sSet, sRet, sRetN, sPass, sExpr, sRaise, sBrk, sCnt, bd_ok, bd_ex, bd_bad, rs_ok, rs_ex, rs_bad, nx_ok, fVar, fC, f2, fCall, aCons, aNil, vAnd, vOr, vNot, fAnd, fOr, fNot, fTru, tr_non, tr_bl, tr_int, tr_tup, tr_rol, fBl, bl_b, fIf, fIsi, gIsi, isiB, ty_non, ty_bl, ty_int, ty_str, ty_tup, ty_rol, fChain, lf_gtI, lf_ltI, lf_leI, lf_geI, addI, subI, List.getElem?_cons_zero, List.getElem?_cons_succ, List.set_cons_zero, List.set_cons_succ, fTup, fLst, tup0, lst0, tup1, lst1, tup2, lst2, tup3, lst3, tup4, lst4, tup5, lst5, tup6, lst6, tup7, lst7, tup8, lst8, tup9, lst9, tup10, lst10, tup11, lst11, tup12, lst12, fNeg, oSome, oNone, Bool.not_true, Bool.not_false, Bool.false_eq_true, if_true, if_false, ite_true, ite_false, lf_int, lf_lenT, lf_lenO, lf_truB, fM1, sSetIx2, sPar, sPar3, kb_NoneType_int, kb_NoneType_str, kb_NoneType_bool, kb_NoneType_tuple, kb_NoneType_list, kb_NoneType_dict, kb_bool_int, kb_bool_str, kb_bool_bool, kb_bool_tuple, kb_bool_list, kb_bool_dict, kb_int_int, kb_int_str, kb_int_bool, kb_int_tuple, kb_int_list, kb_int_dict, kb_str_int, kb_str_str, kb_str_bool, kb_str_tuple, kb_str_list, kb_str_dict, kb_tuple_int, kb_tuple_str, kb_tuple_bool, kb_tuple_tuple, kb_tuple_list, kb_tuple_dict, kb_list_int, kb_list_str, kb_list_bool, kb_list_tuple, kb_list_list, kb_list_dict, kb_dict_int, kb_dict_str, kb_dict_bool, kb_dict_tuple, kb_dict_list, kb_dict_dict, p, e3]
  by_cases hz : pageOf os = List.replicate 64 0
  · refine ⟨.tup [.str "blank"], [], ?_, fun m => ne_blank⟩
    have e2 : gEq (byD (pageOf os)) (.tup blankL) m = .ok (.bl true) m := by rw [show (D.tup blankL) = byD (List.replicate 64 0) from rfl, eqBy, decide_eq_true hz]
    unfold F_told_by B_told_by
    rw [show ([D.int 0, .int 0, .int 0, .int 0, .int 0, .int 0, .int 0, .int 0, .int 0, .int 0, .int 0, .int 0, .int 0, .int 0, .int 0, .int 0, .int 0, .int 0, .int 0, .int 0, .int 0, .int 0, .int 0, .int 0, .int 0, .int 0, .int 0, .int 0, .int 0, .int 0, .int 0, .int 0, .int 0, .int 0, .int 0, .int 0, .int 0, .int 0, .int 0, .int 0, .int 0, .int 0, .int 0, .int 0, .int 0, .int 0, .int 0, .int 0, .int 0, .int 0, .int 0, .int 0, .int 0, .int 0, .int 0, .int 0, .int 0, .int 0, .int 0, .int 0, .int 0, .int 0, .int 0, .int 0] : List D) = blankL from rfl]
    simp only [byD] at e2 ⊢
    simp only [fnD, startE, List.map_cons, List.map_nil, List.length_cons, List.length_nil, List.replicate, List.cons_append, List.nil_append, Nat.reduceAdd, Nat.reduceSub, Nat.zero_add, sSeq, sIf, sSet, sRet, sRetN, sPass, sExpr, sRaise, sBrk, sCnt, bd_ok, bd_ex, bd_bad, rs_ok, rs_ex, rs_bad, nx_ok, fVar, fC, f2, fCall, aCons, aNil, vAnd, vOr, vNot, fAnd, fOr, fNot, fTru, tr_non, tr_bl, tr_int, tr_tup, tr_rol, fBl, bl_b, fIf, fIsi, gIsi, isiB, ty_non, ty_bl, ty_int, ty_str, ty_tup, ty_rol, fChain, lf_gtI, lf_ltI, lf_leI, lf_geI, addI, subI, List.getElem?_cons_zero, List.getElem?_cons_succ, List.set_cons_zero, List.set_cons_succ, fTup, fLst, tup0, lst0, tup1, lst1, tup2, lst2, tup3, lst3, tup4, lst4, tup5, lst5, tup6, lst6, tup7, lst7, tup8, lst8, tup9, lst9, tup10, lst10, tup11, lst11, tup12, lst12, fNeg, oSome, oNone, Bool.not_true, Bool.not_false, Bool.false_eq_true, if_true, if_false, ite_true, ite_false, lf_int, lf_lenT, lf_lenO, lf_truB, fM1, sSetIx2, sPar, sPar3, kb_NoneType_int, kb_NoneType_str, kb_NoneType_bool, kb_NoneType_tuple, kb_NoneType_list, kb_NoneType_dict, kb_bool_int, kb_bool_str, kb_bool_bool, kb_bool_tuple, kb_bool_list, kb_bool_dict, kb_int_int, kb_int_str, kb_int_bool, kb_int_tuple, kb_int_list, kb_int_dict, kb_str_int, kb_str_str, kb_str_bool, kb_str_tuple, kb_str_list, kb_str_dict, kb_tuple_int, kb_tuple_str, kb_tuple_bool, kb_tuple_tuple, kb_tuple_list, kb_tuple_dict, kb_list_int, kb_list_str, kb_list_bool, kb_list_tuple, kb_list_list, kb_list_dict, kb_dict_int, kb_dict_str, kb_dict_bool, kb_dict_tuple, kb_dict_list, kb_dict_dict, e2, List.append_nil]
  · obtain ⟨g, e⟩ := octets_with_check (m := m) (bs := pad os) (by rw [pad_len T.len]; decide)
    obtain ⟨g1, e6⟩ := T.guess (m ++ g)
    obtain ⟨g2, e7⟩ := T.octs (m ++ g ++ g1)
    obtain ⟨g3, e8⟩ := page_by e7 T.len T.len9
    have e9 := T.told (m ++ g ++ g1)
    have e1 : gIsN (byD (pageOf os)) .non m = .ok (.bl false) m := isN_no (fun z => by cases z)
    have e2 : gEq (byD (pageOf os)) (.tup blankL) m = .ok (.bl false) m := by rw [show (D.tup blankL) = byD (List.replicate 64 0) from rfl, eqBy, decide_eq_false hz]
    have e4 : gNe (byD (pageOf os)) (byD (wchk (pad os))) (m ++ g) = .ok (.bl false) (m ++ g) := by rw [neBy, pageOf, decide_eq_true rfl]; rfl
    have e5 := sl_pre (m := m) (w := pageOf os) (b := 60) (B := 60) rfl (by omega)
    rw [page_take T.len] at e5
    have e10 : gEq (byD (wchk (pad os))) (byD (pageOf os)) (m ++ g ++ g1 ++ g3) = .ok (.bl true) (m ++ g ++ g1 ++ g3) := by rw [eqBy, pageOf, decide_eq_true rfl]
    refine ⟨t, g ++ (g1 ++ g3), ?_, T.ne⟩
    unfold F_told_by B_told_by
    rw [show ([D.int 0, .int 0, .int 0, .int 0, .int 0, .int 0, .int 0, .int 0, .int 0, .int 0, .int 0, .int 0, .int 0, .int 0, .int 0, .int 0, .int 0, .int 0, .int 0, .int 0, .int 0, .int 0, .int 0, .int 0, .int 0, .int 0, .int 0, .int 0, .int 0, .int 0, .int 0, .int 0, .int 0, .int 0, .int 0, .int 0, .int 0, .int 0, .int 0, .int 0, .int 0, .int 0, .int 0, .int 0, .int 0, .int 0, .int 0, .int 0, .int 0, .int 0, .int 0, .int 0, .int 0, .int 0, .int 0, .int 0, .int 0, .int 0, .int 0, .int 0, .int 0, .int 0, .int 0, .int 0] : List D) = blankL from rfl]
    rw [show wchk (pad os) = pageOf os from rfl] at e e4 e6 e8 e10
    simp only [byD] at e e1 e2 e4 e5 e6 e8 e10 ⊢
    simp only [fnD, startE, List.map_cons, List.map_nil, List.length_cons, List.length_nil, List.replicate, List.cons_append, List.nil_append, Nat.reduceAdd, Nat.reduceSub, Nat.zero_add, sSeq, sIf, sSet, sRet, sRetN, sPass, sExpr, sRaise, sBrk, sCnt, bd_ok, bd_ex, bd_bad, rs_ok, rs_ex, rs_bad, nx_ok, fVar, fC, f2, fCall, aCons, aNil, vAnd, vOr, vNot, fAnd, fOr, fNot, fTru, tr_non, tr_bl, tr_int, tr_tup, tr_rol, fBl, bl_b, fIf, fIsi, gIsi, isiB, ty_non, ty_bl, ty_int, ty_str, ty_tup, ty_rol, fChain, lf_gtI, lf_ltI, lf_leI, lf_geI, addI, subI, List.getElem?_cons_zero, List.getElem?_cons_succ, List.set_cons_zero, List.set_cons_succ, fTup, fLst, tup0, lst0, tup1, lst1, tup2, lst2, tup3, lst3, tup4, lst4, tup5, lst5, tup6, lst6, tup7, lst7, tup8, lst8, tup9, lst9, tup10, lst10, tup11, lst11, tup12, lst12, fNeg, oSome, oNone, Bool.not_true, Bool.not_false, Bool.false_eq_true, if_true, if_false, ite_true, ite_false, lf_int, lf_lenT, lf_lenO, lf_truB, fM1, sSetIx2, sPar, sPar3, kb_NoneType_int, kb_NoneType_str, kb_NoneType_bool, kb_NoneType_tuple, kb_NoneType_list, kb_NoneType_dict, kb_bool_int, kb_bool_str, kb_bool_bool, kb_bool_tuple, kb_bool_list, kb_bool_dict, kb_int_int, kb_int_str, kb_int_bool, kb_int_tuple, kb_int_list, kb_int_dict, kb_str_int, kb_str_str, kb_str_bool, kb_str_tuple, kb_str_list, kb_str_dict, kb_tuple_int, kb_tuple_str, kb_tuple_bool, kb_tuple_tuple, kb_tuple_list, kb_tuple_dict, kb_list_int, kb_list_str, kb_list_bool, kb_list_tuple, kb_list_list, kb_list_dict, kb_dict_int, kb_dict_str, kb_dict_bool, kb_dict_tuple, kb_dict_list, kb_dict_dict, fSl, e2, e1, e5, e, e4, e6, e9, e8, e10]
    simp only [List.append_assoc]
end
end Pm
end
section
set_option Elab.async false
set_option linter.all false
set_option maxRecDepth 100000
set_option maxHeartbeats 4000000
open PySem L2 Mn Pk
namespace Pm
section
variable {m : Mem} {n : Nat} {d x : D} {o : Mn.Obj} {r : Mem} {ρ : Mn.Env} {ns : List Int}
theorem q_0_0 : gEq (.int 0) (.int 0) m = .ok (.bl true) m := by rw [eqI]; rfl
theorem q_0_1 : gEq (.int 0) (.int 1) m = .ok (.bl false) m := by rw [eqI]; rfl
theorem q_0_2 : gEq (.int 0) (.int 2) m = .ok (.bl false) m := by rw [eqI]; rfl
theorem q_0_3 : gEq (.int 0) (.int 3) m = .ok (.bl false) m := by rw [eqI]; rfl
theorem q_0_4 : gEq (.int 0) (.int 4) m = .ok (.bl false) m := by rw [eqI]; rfl
theorem q_1_0 : gEq (.int 1) (.int 0) m = .ok (.bl false) m := by rw [eqI]; rfl
theorem q_1_1 : gEq (.int 1) (.int 1) m = .ok (.bl true) m := by rw [eqI]; rfl
theorem q_1_2 : gEq (.int 1) (.int 2) m = .ok (.bl false) m := by rw [eqI]; rfl
theorem q_1_3 : gEq (.int 1) (.int 3) m = .ok (.bl false) m := by rw [eqI]; rfl
theorem q_1_4 : gEq (.int 1) (.int 4) m = .ok (.bl false) m := by rw [eqI]; rfl
theorem q_3_0 : gEq (.int 3) (.int 0) m = .ok (.bl false) m := by rw [eqI]; rfl
theorem q_3_1 : gEq (.int 3) (.int 1) m = .ok (.bl false) m := by rw [eqI]; rfl
theorem q_3_2 : gEq (.int 3) (.int 2) m = .ok (.bl false) m := by rw [eqI]; rfl
theorem q_3_3 : gEq (.int 3) (.int 3) m = .ok (.bl true) m := by rw [eqI]; rfl
theorem q_3_4 : gEq (.int 3) (.int 4) m = .ok (.bl false) m := by rw [eqI]; rfl
theorem q_4_0 : gEq (.int 4) (.int 0) m = .ok (.bl false) m := by rw [eqI]; rfl
theorem q_4_1 : gEq (.int 4) (.int 1) m = .ok (.bl false) m := by rw [eqI]; rfl
theorem q_4_2 : gEq (.int 4) (.int 2) m = .ok (.bl false) m := by rw [eqI]; rfl
theorem q_4_3 : gEq (.int 4) (.int 3) m = .ok (.bl false) m := by rw [eqI]; rfl
theorem q_4_4 : gEq (.int 4) (.int 4) m = .ok (.bl true) m := by rw [eqI]; rfl
theorem addBy {xs ys : List Int} (h : xs.length + ys.length ≤ 100000) : gAdd (byD xs) (byD ys) m = .ok (byD (xs ++ ys)) m := by
  rw [byD, byD, add_tup (by rw [List.length_map, List.length_map]; omega), ← List.map_append]
theorem num3 {n : Int} (h : 0 ≤ n ∧ n < 16777216) : numOf (octs n 3) = n := by
  unfold octs lits numOf
  simp only [lits, List.reverse_cons, List.reverse_nil, List.nil_append, List.cons_append, List.foldl_cons, List.foldl_nil]
  omega
theorem num5 {n : Int} (h : 0 ≤ n ∧ n < 1099511627776) : numOf (octs n 5) = n := by
  unfold octs lits numOf
  simp only [lits, List.reverse_cons, List.reverse_nil, List.nil_append, List.cons_append, List.foldl_cons, List.foldl_nil]
  omega
/-! ### guessed -/
theorem ixBy {w : List Int} {k : Nat} {b : Int} (h : w[k]? = some b) : gIx2 (byD w) (.int (k : Int)) m = .ok (.int b) m := ix2T (atI_map h)
theorem guess0 {w : List Int} (hl : w.length = 64) (h0 : w[0]? = some 0) : F_guessed [byD w] m = .ok (.tup [.str "blank"]) m := by
  have s := sl_by (m := m) (w := w) (a := 2) (b := 5) (A := 2) (B := 5) rfl rfl (by omega)
  have e := octets_number (m := m) (bs := (w.drop 2).take (5 - 2))
  have i0 : gIx2 (byD w) (.int 0) m = .ok (.int 0) m := ixBy (k := 0) h0
  unfold F_guessed B_guessed
  simp only [byD] at s e i0 ⊢
  simp only [fnD, startE, List.map_cons, List.map_nil, List.length_cons, List.length_nil, List.replicate, List.cons_append, List.nil_append, Nat.reduceAdd, Nat.reduceSub, Nat.zero_add, sSeq, sIf, sSet, sRet, sRetN, sPass, sExpr, sRaise, sBrk, sCnt, bd_ok, bd_ex, bd_bad, rs_ok, rs_ex, rs_bad, nx_ok, fVar, fC, f2, fCall, aCons, aNil, vAnd, vOr, vNot, fAnd, fOr, fNot, fTru, tr_non, tr_bl, tr_int, tr_tup, tr_rol, fBl, bl_b, fIf, fIsi, gIsi, isiB, ty_non, ty_bl, ty_int, ty_str, ty_tup, ty_rol, fChain, lf_gtI, lf_ltI, lf_leI, lf_geI, addI, subI, List.getElem?_cons_zero, List.getElem?_cons_succ, List.set_cons_zero, List.set_cons_succ, fTup, fLst, tup0, lst0, tup1, lst1, tup2, lst2, tup3, lst3, tup4, lst4, tup5, lst5, tup6, lst6, tup7, lst7, tup8, lst8, tup9, lst9, tup10, lst10, tup11, lst11, tup12, lst12, fNeg, oSome, oNone, Bool.not_true, Bool.not_false, Bool.false_eq_true, if_true, if_false, ite_true, ite_false, lf_int, lf_lenT, lf_lenO, lf_truB, fM1, sSetIx2, sPar, sPar3, kb_NoneType_int, kb_NoneType_str, kb_NoneType_bool, kb_NoneType_tuple, kb_NoneType_list, kb_NoneType_dict, kb_bool_int, kb_bool_str, kb_bool_bool, kb_bool_tuple, kb_bool_list, kb_bool_dict, kb_int_int, kb_int_str, kb_int_bool, kb_int_tuple, kb_int_list, kb_int_dict, kb_str_int, kb_str_str, kb_str_bool, kb_str_tuple, kb_str_list, kb_str_dict, kb_tuple_int, kb_tuple_str, kb_tuple_bool, kb_tuple_tuple, kb_tuple_list, kb_tuple_dict, kb_list_int, kb_list_str, kb_list_bool, kb_list_tuple, kb_list_list, kb_list_dict, kb_dict_int, kb_dict_str, kb_dict_bool, kb_dict_tuple, kb_dict_list, kb_dict_dict, fSl, s, e, i0, q_0_0]
theorem guess1 {w : List Int} {b4 b5 : Int} (hl : w.length = 64) (h0 : w[0]? = some 1) (h4 : w[4]? = some b4) (h5 : w[5]? = some b5) : F_guessed [byD w] m = .ok (.tup [.str "head", .int (numOf ((w.drop 1).take 3)), .int b4, .int b5, .int (numOf ((w.drop 6).take 5))]) m := by
  have s := sl_by (m := m) (w := w) (a := 2) (b := 5) (A := 2) (B := 5) rfl rfl (by omega)
  have e := octets_number (m := m) (bs := (w.drop 2).take (5 - 2))
  have s1 := sl_by (m := m) (w := w) (a := 1) (b := 4) (A := 1) (B := 4) rfl rfl (by omega)
  have e1 := octets_number (m := m) (bs := (w.drop 1).take (4 - 1))
  have s2 := sl_by (m := m) (w := w) (a := 6) (b := 11) (A := 6) (B := 11) rfl rfl (by omega)
  have e2 := octets_number (m := m) (bs := (w.drop 6).take (11 - 6))
  have i0 : gIx2 (byD w) (.int 0) m = .ok (.int 1) m := ixBy (k := 0) h0
  have i4 : gIx2 (byD w) (.int 4) m = .ok (.int b4) m := ixBy (k := 4) h4
  have i5 : gIx2 (byD w) (.int 5) m = .ok (.int b5) m := ixBy (k := 5) h5
  unfold F_guessed B_guessed
  simp only [byD, Nat.reduceSub] at s e s1 e1 s2 e2 i0 i4 i5 ⊢
  simp only [fnD, startE, List.map_cons, List.map_nil, List.length_cons, List.length_nil, List.replicate, List.cons_append, List.nil_append, Nat.reduceAdd, Nat.reduceSub, Nat.zero_add, sSeq, sIf, sSet, sRet, sRetN, sPass, sExpr, sRaise, sBrk, sCnt, bd_ok, bd_ex, bd_bad, rs_ok, rs_ex, rs_bad, nx_ok, fVar, fC, f2, fCall, aCons, aNil, vAnd, vOr, vNot, fAnd, fOr, fNot, fTru, tr_non, tr_bl, tr_int, tr_tup, tr_rol, fBl, bl_b, fIf, fIsi, gIsi, isiB, ty_non, ty_bl, ty_int, ty_str, ty_tup, ty_rol, fChain, lf_gtI, lf_ltI, lf_leI, lf_geI, addI, subI, List.getElem?_cons_zero, List.getElem?_cons_succ, List.set_cons_zero, List.set_cons_succ, fTup, fLst, tup0, lst0, tup1, lst1, tup2, lst2, tup3, lst3, tup4, lst4, tup5, lst5, tup6, lst6, tup7, lst7, tup8, lst8, tup9, lst9, tup10, lst10, tup11, lst11, tup12, lst12, fNeg, oSome, oNone, Bool.not_true, Bool.not_false, Bool.false_eq_true, if_true, if_false, ite_true, ite_false, lf_int, lf_lenT, lf_lenO, lf_truB, fM1, sSetIx2, sPar, sPar3, kb_NoneType_int, kb_NoneType_str, kb_NoneType_bool, kb_NoneType_tuple, kb_NoneType_list, kb_NoneType_dict, kb_bool_int, kb_bool_str, kb_bool_bool, kb_bool_tuple, kb_bool_list, kb_bool_dict, kb_int_int, kb_int_str, kb_int_bool, kb_int_tuple, kb_int_list, kb_int_dict, kb_str_int, kb_str_str, kb_str_bool, kb_str_tuple, kb_str_list, kb_str_dict, kb_tuple_int, kb_tuple_str, kb_tuple_bool, kb_tuple_tuple, kb_tuple_list, kb_tuple_dict, kb_list_int, kb_list_str, kb_list_bool, kb_list_tuple, kb_list_list, kb_list_dict, kb_dict_int, kb_dict_str, kb_dict_bool, kb_dict_tuple, kb_dict_list, kb_dict_dict, fSl, s, e, s1, e1, s2, e2, i0, i4, i5, q_1_0, q_1_1]
theorem guess3 {w : List Int} {b1 b5 : Int} (hl : w.length = 64) (h0 : w[0]? = some 3) (h1 : w[1]? = some b1) (h5 : w[5]? = some b5) : F_guessed [byD w] m = .ok (.tup [.str "tail", .int b1, .int (numOf ((w.drop 2).take 3)), .int b5, byD ((w.drop 6).take 54)]) m := by
  have s := sl_by (m := m) (w := w) (a := 2) (b := 5) (A := 2) (B := 5) rfl rfl (by omega)
  have e := octets_number (m := m) (bs := (w.drop 2).take (5 - 2))
  have s1 := sl_by (m := m) (w := w) (a := 6) (b := 60) (A := 6) (B := 60) rfl rfl (by omega)
  have i0 : gIx2 (byD w) (.int 0) m = .ok (.int 3) m := ixBy (k := 0) h0
  have i1 : gIx2 (byD w) (.int 1) m = .ok (.int b1) m := ixBy (k := 1) h1
  have i5 : gIx2 (byD w) (.int 5) m = .ok (.int b5) m := ixBy (k := 5) h5
  unfold F_guessed B_guessed
  simp only [byD, Nat.reduceSub] at s e s1 i0 i1 i5 ⊢
  simp only [fnD, startE, List.map_cons, List.map_nil, List.length_cons, List.length_nil, List.replicate, List.cons_append, List.nil_append, Nat.reduceAdd, Nat.reduceSub, Nat.zero_add, sSeq, sIf, sSet, sRet, sRetN, sPass, sExpr, sRaise, sBrk, sCnt, bd_ok, bd_ex, bd_bad, rs_ok, rs_ex, rs_bad, nx_ok, fVar, fC, f2, fCall, aCons, aNil, vAnd, vOr, vNot, fAnd, fOr, fNot, fTru, tr_non, tr_bl, tr_int, tr_tup, tr_rol, fBl, bl_b, fIf, fIsi, gIsi, isiB, ty_non, ty_bl, ty_int, ty_str, ty_tup, ty_rol, fChain, lf_gtI, lf_ltI, lf_leI, lf_geI, addI, subI, List.getElem?_cons_zero, List.getElem?_cons_succ, List.set_cons_zero, List.set_cons_succ, fTup, fLst, tup0, lst0, tup1, lst1, tup2, lst2, tup3, lst3, tup4, lst4, tup5, lst5, tup6, lst6, tup7, lst7, tup8, lst8, tup9, lst9, tup10, lst10, tup11, lst11, tup12, lst12, fNeg, oSome, oNone, Bool.not_true, Bool.not_false, Bool.false_eq_true, if_true, if_false, ite_true, ite_false, lf_int, lf_lenT, lf_lenO, lf_truB, fM1, sSetIx2, sPar, sPar3, kb_NoneType_int, kb_NoneType_str, kb_NoneType_bool, kb_NoneType_tuple, kb_NoneType_list, kb_NoneType_dict, kb_bool_int, kb_bool_str, kb_bool_bool, kb_bool_tuple, kb_bool_list, kb_bool_dict, kb_int_int, kb_int_str, kb_int_bool, kb_int_tuple, kb_int_list, kb_int_dict, kb_str_int, kb_str_str, kb_str_bool, kb_str_tuple, kb_str_list, kb_str_dict, kb_tuple_int, kb_tuple_str, kb_tuple_bool, kb_tuple_tuple, kb_tuple_list, kb_tuple_dict, kb_list_int, kb_list_str, kb_list_bool, kb_list_tuple, kb_list_list, kb_list_dict, kb_dict_int, kb_dict_str, kb_dict_bool, kb_dict_tuple, kb_dict_list, kb_dict_dict, fSl, s, e, s1, i0, i1, i5, q_3_0, q_3_1, q_3_2, q_3_3]
theorem guess4 {w : List Int} {b1 b5 : Int} {s : Str} (hl : w.length = 64) (h0 : w[0]? = some 4) (h1 : w[1]? = some b1) (h5 : w[5]? = some b5) (h6 : w[6]? = some (s.length : Int)) (hs : Signs s) (h7 : (w.drop 7).take s.length = cods s) (hm : s.length ≤ 50) :
    ∃ g, F_guessed [byD w] m = .ok (.tup [.str "data", .int b1, .int (numOf ((w.drop 2).take 3)), .int b5, .str s]) (m ++ g) := by
  obtain ⟨g, e7⟩ := octets_text (m := m) hs (by omega)
  refine ⟨g, ?_⟩
  have s0 := sl_by (m := m) (w := w) (a := 2) (b := 5) (A := 2) (B := 5) rfl rfl (by omega)
  have e := octets_number (m := m) (bs := (w.drop 2).take (5 - 2))
  have s1 := sl_by (m := m) (w := w) (a := 7) (b := 7 + s.length) (A := 7) (B := 7 + (s.length : Int)) rfl (by omega) (by omega)
  rw [Nat.add_sub_cancel_left, h7] at s1
  have i0 : gIx2 (byD w) (.int 0) m = .ok (.int 4) m := ixBy (k := 0) h0
  have i1 : gIx2 (byD w) (.int 1) m = .ok (.int b1) m := ixBy (k := 1) h1
  have i5 : gIx2 (byD w) (.int 5) m = .ok (.int b5) m := ixBy (k := 5) h5
  have i6 : gIx2 (byD w) (.int 6) m = .ok (.int (s.length : Int)) m := ixBy (k := 6) h6
  unfold F_guessed B_guessed
  simp only [byD, Nat.reduceSub] at s0 e s1 i0 i1 i5 i6 e7 ⊢
  simp only [fnD, startE, List.map_cons, List.map_nil, List.length_cons, List.length_nil, List.replicate, List.cons_append, List.nil_append, Nat.reduceAdd, Nat.reduceSub, Nat.zero_add, sSeq, sIf, sSet, sRet, sRetN, sPass, sExpr, sRaise, sBrk, sCnt, bd_ok, bd_ex, bd_bad, rs_ok, rs_ex, rs_bad, nx_ok, fVar, fC, f2, fCall, aCons, aNil, vAnd, vOr, vNot, fAnd, fOr, fNot, fTru, tr_non, tr_bl, tr_int, tr_tup, tr_rol, fBl, bl_b, fIf, fIsi, gIsi, isiB, ty_non, ty_bl, ty_int, ty_str, ty_tup, ty_rol, fChain, lf_gtI, lf_ltI, lf_leI, lf_geI, addI, subI, List.getElem?_cons_zero, List.getElem?_cons_succ, List.set_cons_zero, List.set_cons_succ, fTup, fLst, tup0, lst0, tup1, lst1, tup2, lst2, tup3, lst3, tup4, lst4, tup5, lst5, tup6, lst6, tup7, lst7, tup8, lst8, tup9, lst9, tup10, lst10, tup11, lst11, tup12, lst12, fNeg, oSome, oNone, Bool.not_true, Bool.not_false, Bool.false_eq_true, if_true, if_false, ite_true, ite_false, lf_int, lf_lenT, lf_lenO, lf_truB, fM1, sSetIx2, sPar, sPar3, kb_NoneType_int, kb_NoneType_str, kb_NoneType_bool, kb_NoneType_tuple, kb_NoneType_list, kb_NoneType_dict, kb_bool_int, kb_bool_str, kb_bool_bool, kb_bool_tuple, kb_bool_list, kb_bool_dict, kb_int_int, kb_int_str, kb_int_bool, kb_int_tuple, kb_int_list, kb_int_dict, kb_str_int, kb_str_str, kb_str_bool, kb_str_tuple, kb_str_list, kb_str_dict, kb_tuple_int, kb_tuple_str, kb_tuple_bool, kb_tuple_tuple, kb_tuple_list, kb_tuple_dict, kb_list_int, kb_list_str, kb_list_bool, kb_list_tuple, kb_list_list, kb_list_dict, kb_dict_int, kb_dict_str, kb_dict_bool, kb_dict_tuple, kb_dict_list, kb_dict_dict, fSl, s0, e, s1, e7, i0, i1, i5, i6, q_4_0, q_4_1, q_4_2, q_4_3, q_4_4]
/-! ### is_told -/
theorem is_told_head {t : D} {b : Bool} (hty : tyD t m = some "tuple") (hlen : gLen [t] m = .ok (.int 5) m) (h0 : gIx2 t (.int 0) m = .ok (.str "head") m) (h : F_is_told_head [t] m = .ok (.bl b) m) : F_is_told [t] m = .ok (.bl b) m := by
  have l0 : gEq (.int 5) (.int 0) m = .ok (.bl false) m := by rw [eqI]; rfl
  have l1 : gNe (.int 5) (.int 5) m = .ok (.bl false) m := by rw [neI]; rfl
  have k : lookS [("blank", .int 1), ("head", .int 5), ("card", .int 7), ("tail", .int 5), ("data", .int 5)] "head" = some (.int 5) := rfl
  unfold F_is_told B_is_told
  simp only [fnD, startE, List.map_cons, List.map_nil, List.length_cons, List.length_nil, List.replicate, List.cons_append, List.nil_append, Nat.reduceAdd, Nat.reduceSub, Nat.zero_add, sSeq, sIf, sSet, sRet, sRetN, sPass, sExpr, sRaise, sBrk, sCnt, bd_ok, bd_ex, bd_bad, rs_ok, rs_ex, rs_bad, nx_ok, fVar, fC, f2, fCall, aCons, aNil, vAnd, vOr, vNot, fAnd, fOr, fNot, fTru, tr_non, tr_bl, tr_int, tr_tup, tr_rol, fBl, bl_b, fIf, fIsi, gIsi, isiB, ty_non, ty_bl, ty_int, ty_str, ty_tup, ty_rol, fChain, lf_gtI, lf_ltI, lf_leI, lf_geI, addI, subI, List.getElem?_cons_zero, List.getElem?_cons_succ, List.set_cons_zero, List.set_cons_succ, fTup, fLst, tup0, lst0, tup1, lst1, tup2, lst2, tup3, lst3, tup4, lst4, tup5, lst5, tup6, lst6, tup7, lst7, tup8, lst8, tup9, lst9, tup10, lst10, tup11, lst11, tup12, lst12, fNeg, oSome, oNone, Bool.not_true, Bool.not_false, Bool.false_eq_true, if_true, if_false, ite_true, ite_false, lf_int, lf_lenT, lf_lenO, lf_truB, fM1, sSetIx2, sPar, sPar3, kb_NoneType_int, kb_NoneType_str, kb_NoneType_bool, kb_NoneType_tuple, kb_NoneType_list, kb_NoneType_dict, kb_bool_int, kb_bool_str, kb_bool_bool, kb_bool_tuple, kb_bool_list, kb_bool_dict, kb_int_int, kb_int_str, kb_int_bool, kb_int_tuple, kb_int_list, kb_int_dict, kb_str_int, kb_str_str, kb_str_bool, kb_str_tuple, kb_str_list, kb_str_dict, kb_tuple_int, kb_tuple_str, kb_tuple_bool, kb_tuple_tuple, kb_tuple_list, kb_tuple_dict, kb_list_int, kb_list_str, kb_list_bool, kb_list_tuple, kb_list_list, kb_list_dict, kb_dict_int, kb_dict_str, kb_dict_bool, kb_dict_tuple, kb_dict_list, kb_dict_dict, hty, hlen, h0, l0, l1, fInK, fIxK, k, Option.isSome_some, bne_self_eq_false, w_head_head, w_head_card, w_head_tail, w_head_blank, h]
theorem is_told_tail {t : D} {b : Bool} (hty : tyD t m = some "tuple") (hlen : gLen [t] m = .ok (.int 5) m) (h0 : gIx2 t (.int 0) m = .ok (.str "tail") m) (h : F_is_told_tail [t] m = .ok (.bl b) m) : F_is_told [t] m = .ok (.bl b) m := by
  have l0 : gEq (.int 5) (.int 0) m = .ok (.bl false) m := by rw [eqI]; rfl
  have l1 : gNe (.int 5) (.int 5) m = .ok (.bl false) m := by rw [neI]; rfl
  have k : lookS [("blank", .int 1), ("head", .int 5), ("card", .int 7), ("tail", .int 5), ("data", .int 5)] "tail" = some (.int 5) := rfl
  unfold F_is_told B_is_told
  simp only [fnD, startE, List.map_cons, List.map_nil, List.length_cons, List.length_nil, List.replicate, List.cons_append, List.nil_append, Nat.reduceAdd, Nat.reduceSub, Nat.zero_add, sSeq, sIf, sSet, sRet, sRetN, sPass, sExpr, sRaise, sBrk, sCnt, bd_ok, bd_ex, bd_bad, rs_ok, rs_ex, rs_bad, nx_ok, fVar, fC, f2, fCall, aCons, aNil, vAnd, vOr, vNot, fAnd, fOr, fNot, fTru, tr_non, tr_bl, tr_int, tr_tup, tr_rol, fBl, bl_b, fIf, fIsi, gIsi, isiB, ty_non, ty_bl, ty_int, ty_str, ty_tup, ty_rol, fChain, lf_gtI, lf_ltI, lf_leI, lf_geI, addI, subI, List.getElem?_cons_zero, List.getElem?_cons_succ, List.set_cons_zero, List.set_cons_succ, fTup, fLst, tup0, lst0, tup1, lst1, tup2, lst2, tup3, lst3, tup4, lst4, tup5, lst5, tup6, lst6, tup7, lst7, tup8, lst8, tup9, lst9, tup10, lst10, tup11, lst11, tup12, lst12, fNeg, oSome, oNone, Bool.not_true, Bool.not_false, Bool.false_eq_true, if_true, if_false, ite_true, ite_false, lf_int, lf_lenT, lf_lenO, lf_truB, fM1, sSetIx2, sPar, sPar3, kb_NoneType_int, kb_NoneType_str, kb_NoneType_bool, kb_NoneType_tuple, kb_NoneType_list, kb_NoneType_dict, kb_bool_int, kb_bool_str, kb_bool_bool, kb_bool_tuple, kb_bool_list, kb_bool_dict, kb_int_int, kb_int_str, kb_int_bool, kb_int_tuple, kb_int_list, kb_int_dict, kb_str_int, kb_str_str, kb_str_bool, kb_str_tuple, kb_str_list, kb_str_dict, kb_tuple_int, kb_tuple_str, kb_tuple_bool, kb_tuple_tuple, kb_tuple_list, kb_tuple_dict, kb_list_int, kb_list_str, kb_list_bool, kb_list_tuple, kb_list_list, kb_list_dict, kb_dict_int, kb_dict_str, kb_dict_bool, kb_dict_tuple, kb_dict_list, kb_dict_dict, hty, hlen, h0, l0, l1, fInK, fIxK, k, Option.isSome_some, bne_self_eq_false, w_tail_head, w_tail_card, w_tail_tail, w_tail_blank, h]
theorem is_told_data {t : D} {b : Bool} (hty : tyD t m = some "tuple") (hlen : gLen [t] m = .ok (.int 5) m) (h0 : gIx2 t (.int 0) m = .ok (.str "data") m) (h : F_is_told_data [t] m = .ok (.bl b) m) : F_is_told [t] m = .ok (.bl b) m := by
  have l0 : gEq (.int 5) (.int 0) m = .ok (.bl false) m := by rw [eqI]; rfl
  have l1 : gNe (.int 5) (.int 5) m = .ok (.bl false) m := by rw [neI]; rfl
  have k : lookS [("blank", .int 1), ("head", .int 5), ("card", .int 7), ("tail", .int 5), ("data", .int 5)] "data" = some (.int 5) := rfl
  unfold F_is_told B_is_told
  simp only [fnD, startE, List.map_cons, List.map_nil, List.length_cons, List.length_nil, List.replicate, List.cons_append, List.nil_append, Nat.reduceAdd, Nat.reduceSub, Nat.zero_add, sSeq, sIf, sSet, sRet, sRetN, sPass, sExpr, sRaise, sBrk, sCnt, bd_ok, bd_ex, bd_bad, rs_ok, rs_ex, rs_bad, nx_ok, fVar, fC, f2, fCall, aCons, aNil, vAnd, vOr, vNot, fAnd, fOr, fNot, fTru, tr_non, tr_bl, tr_int, tr_tup, tr_rol, fBl, bl_b, fIf, fIsi, gIsi, isiB, ty_non, ty_bl, ty_int, ty_str, ty_tup, ty_rol, fChain, lf_gtI, lf_ltI, lf_leI, lf_geI, addI, subI, List.getElem?_cons_zero, List.getElem?_cons_succ, List.set_cons_zero, List.set_cons_succ, fTup, fLst, tup0, lst0, tup1, lst1, tup2, lst2, tup3, lst3, tup4, lst4, tup5, lst5, tup6, lst6, tup7, lst7, tup8, lst8, tup9, lst9, tup10, lst10, tup11, lst11, tup12, lst12, fNeg, oSome, oNone, Bool.not_true, Bool.not_false, Bool.false_eq_true, if_true, if_false, ite_true, ite_false, lf_int, lf_lenT, lf_lenO, lf_truB, fM1, sSetIx2, sPar, sPar3, kb_NoneType_int, kb_NoneType_str, kb_NoneType_bool, kb_NoneType_tuple, kb_NoneType_list, kb_NoneType_dict, kb_bool_int, kb_bool_str, kb_bool_bool, kb_bool_tuple, kb_bool_list, kb_bool_dict, kb_int_int, kb_int_str, kb_int_bool, kb_int_tuple, kb_int_list, kb_int_dict, kb_str_int, kb_str_str, kb_str_bool, kb_str_tuple, kb_str_list, kb_str_dict, kb_tuple_int, kb_tuple_str, kb_tuple_bool, kb_tuple_tuple, kb_tuple_list, kb_tuple_dict, kb_list_int, kb_list_str, kb_list_bool, kb_list_tuple, kb_list_list, kb_list_dict, kb_dict_int, kb_dict_str, kb_dict_bool, kb_dict_tuple, kb_dict_list, kb_dict_dict, hty, hlen, h0, l0, l1, fInK, fIxK, k, Option.isSome_some, bne_self_eq_false, w_data_head, w_data_card, w_data_tail, w_data_blank, h]
theorem is_told_blank {t : D} (hty : tyD t m = some "tuple") (hlen : gLen [t] m = .ok (.int 1) m) (h0 : gIx2 t (.int 0) m = .ok (.str "blank") m) : F_is_told [t] m = .ok (.bl true) m := by
  have l0 : gEq (.int 1) (.int 0) m = .ok (.bl false) m := by rw [eqI]; rfl
  have l1 : gNe (.int 1) (.int 1) m = .ok (.bl false) m := by rw [neI]; rfl
  have k : lookS [("blank", .int 1), ("head", .int 5), ("card", .int 7), ("tail", .int 5), ("data", .int 5)] "blank" = some (.int 1) := rfl
  unfold F_is_told B_is_told
  simp only [fnD, startE, List.map_cons, List.map_nil, List.length_cons, List.length_nil, List.replicate, List.cons_append, List.nil_append, Nat.reduceAdd, Nat.reduceSub, Nat.zero_add, sSeq, sIf, sSet, sRet, sRetN, sPass, sExpr, sRaise, sBrk, sCnt, bd_ok, bd_ex, bd_bad, rs_ok, rs_ex, rs_bad, nx_ok, fVar, fC, f2, fCall, aCons, aNil, vAnd, vOr, vNot, fAnd, fOr, fNot, fTru, tr_non, tr_bl, tr_int, tr_tup, tr_rol, fBl, bl_b, fIf, fIsi, gIsi, isiB, ty_non, ty_bl, ty_int, ty_str, ty_tup, ty_rol, fChain, lf_gtI, lf_ltI, lf_leI, lf_geI, addI, subI, List.getElem?_cons_zero, List.getElem?_cons_succ, List.set_cons_zero, List.set_cons_succ, fTup, fLst, tup0, lst0, tup1, lst1, tup2, lst2, tup3, lst3, tup4, lst4, tup5, lst5, tup6, lst6, tup7, lst7, tup8, lst8, tup9, lst9, tup10, lst10, tup11, lst11, tup12, lst12, fNeg, oSome, oNone, Bool.not_true, Bool.not_false, Bool.false_eq_true, if_true, if_false, ite_true, ite_false, lf_int, lf_lenT, lf_lenO, lf_truB, fM1, sSetIx2, sPar, sPar3, kb_NoneType_int, kb_NoneType_str, kb_NoneType_bool, kb_NoneType_tuple, kb_NoneType_list, kb_NoneType_dict, kb_bool_int, kb_bool_str, kb_bool_bool, kb_bool_tuple, kb_bool_list, kb_bool_dict, kb_int_int, kb_int_str, kb_int_bool, kb_int_tuple, kb_int_list, kb_int_dict, kb_str_int, kb_str_str, kb_str_bool, kb_str_tuple, kb_str_list, kb_str_dict, kb_tuple_int, kb_tuple_str, kb_tuple_bool, kb_tuple_tuple, kb_tuple_list, kb_tuple_dict, kb_list_int, kb_list_str, kb_list_bool, kb_list_tuple, kb_list_list, kb_list_dict, kb_dict_int, kb_dict_str, kb_dict_bool, kb_dict_tuple, kb_dict_list, kb_dict_dict, hty, hlen, h0, l0, l1, fInK, fIxK, k, Option.isSome_some, bne_self_eq_false, w_blank_head, w_blank_card, w_blank_tail, w_blank_blank]
theorem told_blank : Told (.tup [.str "blank"]) [] where
  told m := is_told_blank rfl rfl (ix2T rfl)
  octs m := ⟨[], by
    have h0 : gIx2 (.tup [.str "blank"]) (.int 0) m = .ok (.str "blank") m := ix2T rfl
    unfold F_told_octets B_told_octets
    simp only [fnD, startE, List.map_cons, List.map_nil, List.length_cons, List.length_nil, List.replicate, List.cons_append, List.nil_append, Nat.reduceAdd, Nat.reduceSub, Nat.zero_add, sSeq, sIf, sSet, sRet, sRetN, sPass, sExpr, sRaise, sBrk, sCnt, bd_ok, bd_ex, bd_bad, rs_ok, rs_ex, rs_bad, nx_ok, fVar, fC, f2, fCall, aCons, aNil, vAnd, vOr, vNot, fAnd, fOr, fNot, fTru, tr_non, tr_bl, tr_int, tr_tup, tr_rol, fBl, bl_b, fIf, fIsi, gIsi, isiB, ty_non, ty_bl, ty_int, ty_str, ty_tup, ty_rol, fChain, lf_gtI, lf_ltI, lf_leI, lf_geI, addI, subI, List.getElem?_cons_zero, List.getElem?_cons_succ, List.set_cons_zero, List.set_cons_succ, fTup, fLst, tup0, lst0, tup1, lst1, tup2, lst2, tup3, lst3, tup4, lst4, tup5, lst5, tup6, lst6, tup7, lst7, tup8, lst8, tup9, lst9, tup10, lst10, tup11, lst11, tup12, lst12, fNeg, oSome, oNone, Bool.not_true, Bool.not_false, Bool.false_eq_true, if_true, if_false, ite_true, ite_false, lf_int, lf_lenT, lf_lenO, lf_truB, fM1, sSetIx2, sPar, sPar3, kb_NoneType_int, kb_NoneType_str, kb_NoneType_bool, kb_NoneType_tuple, kb_NoneType_list, kb_NoneType_dict, kb_bool_int, kb_bool_str, kb_bool_bool, kb_bool_tuple, kb_bool_list, kb_bool_dict, kb_int_int, kb_int_str, kb_int_bool, kb_int_tuple, kb_int_list, kb_int_dict, kb_str_int, kb_str_str, kb_str_bool, kb_str_tuple, kb_str_list, kb_str_dict, kb_tuple_int, kb_tuple_str, kb_tuple_bool, kb_tuple_tuple, kb_tuple_list, kb_tuple_dict, kb_list_int, kb_list_str, kb_list_bool, kb_list_tuple, kb_list_list, kb_list_dict, kb_dict_int, kb_dict_str, kb_dict_bool, kb_dict_tuple, kb_dict_list, kb_dict_dict, h0, w_blank_blank, List.append_nil]
    rfl⟩
  len := by decide
  len9 := by decide
  byte := fun b h => by cases h
  guess m := ⟨[], by rw [guess0 (w := wchk (pad [])) (page_len (os := []) (by decide)) (by decide), List.append_nil]⟩
  ne m := ne_blank
theorem stampB {n : Int} (h : 0 ≤ n ∧ n ≤ 16777215) : F_is_stamp [.int n] m = .ok (.bl true) m := by rw [is_stamp, decide_eq_true h]
theorem thingB {n : Int} (h : 0 ≤ n ∧ n ≤ 23) : F_is_thing [.int n] m = .ok (.bl true) m := by rw [is_thing, decide_eq_true h]
theorem numB {n a b : Int} (h : a ≤ n ∧ n ≤ b) : F_is_number [.int n, .int a, .int b] m = .ok (.bl true) m := by rw [is_number, decide_eq_true h]
theorem oct_run {n : Int} (k : Nat) {K : Int} (hK : K = (k : Int)) (hk : k ≤ 1000) : ∃ g, F_number_octets [.int n, .int K] m = .ok (byD (octs n k)) (m ++ g) := by
  have := number_octets (m := m) (n := n) (k := K) (by omega) (by omega)
  rw [hK] at this ⊢
  rwa [Int.toNat_natCast] at this
abbrev headD (a b c e : Int) : D := .tup [.str "head", .int a, .int b, .int c, .int e]
abbrev headO (a b c e : Int) : List Int := 1 :: (octs a 3 ++ (b :: c :: octs e 5))
theorem told_head {a b c e : Int} (ha : 0 ≤ a ∧ a ≤ 16777215) (hb : 1 ≤ b ∧ b ≤ 24) (hc : 0 ≤ c ∧ c ≤ 200) (he : 0 ≤ e ∧ e ≤ 4294967296) : Told (headD a b c e) (headO a b c e) where
  told m := is_told_head rfl rfl (ix2T rfl) (by
    have e1 := stampB (m := m) ha
    have e2 := numB (m := m) he
    have e3 := numB (m := m) hb
    have e4 := numB (m := m) hc
    unfold F_is_told_head B_is_told_head
    simp only [fnD, startE, List.map_cons, List.map_nil, List.length_cons, List.length_nil, List.replicate, List.cons_append, List.nil_append, Nat.reduceAdd, Nat.reduceSub, Nat.zero_add, sSeq, sIf, sSet, sRet, sRetN, sPass, sExpr, sRaise, sBrk, sCnt, bd_ok, bd_ex, bd_bad, rs_ok, rs_ex, rs_bad, nx_ok, fVar, fC, f2, fCall, aCons, aNil, vAnd, vOr, vNot, fAnd, fOr, fNot, fTru, tr_non, tr_bl, tr_int, tr_tup, tr_rol, fBl, bl_b, fIf, fIsi, gIsi, isiB, ty_non, ty_bl, ty_int, ty_str, ty_tup, ty_rol, fChain, lf_gtI, lf_ltI, lf_leI, lf_geI, addI, subI, List.getElem?_cons_zero, List.getElem?_cons_succ, List.set_cons_zero, List.set_cons_succ, fTup, fLst, tup0, lst0, tup1, lst1, tup2, lst2, tup3, lst3, tup4, lst4, tup5, lst5, tup6, lst6, tup7, lst7, tup8, lst8, tup9, lst9, tup10, lst10, tup11, lst11, tup12, lst12, fNeg, oSome, oNone, Bool.not_true, Bool.not_false, Bool.false_eq_true, if_true, if_false, ite_true, ite_false, lf_int, lf_lenT, lf_lenO, lf_truB, fM1, sSetIx2, sPar, sPar3, kb_NoneType_int, kb_NoneType_str, kb_NoneType_bool, kb_NoneType_tuple, kb_NoneType_list, kb_NoneType_dict, kb_bool_int, kb_bool_str, kb_bool_bool, kb_bool_tuple, kb_bool_list, kb_bool_dict, kb_int_int, kb_int_str, kb_int_bool, kb_int_tuple, kb_int_list, kb_int_dict, kb_str_int, kb_str_str, kb_str_bool, kb_str_tuple, kb_str_list, kb_str_dict, kb_tuple_int, kb_tuple_str, kb_tuple_bool, kb_tuple_tuple, kb_tuple_list, kb_tuple_dict, kb_list_int, kb_list_str, kb_list_bool, kb_list_tuple, kb_list_list, kb_list_dict, kb_dict_int, kb_dict_str, kb_dict_bool, kb_dict_tuple, kb_dict_list, kb_dict_dict, sAsg, gTupT, gsCons, gsNil, gN, e1, e2, e3, e4])
  octs m := by
    obtain ⟨g1, e1⟩ := oct_run (m := m) (n := a) 3 (K := 3) rfl (by decide)
    obtain ⟨g2, e2⟩ := oct_run (m := m ++ g1) (n := e) 5 (K := 5) rfl (by decide)
    have h0 : gIx2 (headD a b c e) (.int 0) m = .ok (.str "head") m := ix2T rfl
    have h1 : gIx2 (headD a b c e) (.int 1) m = .ok (.int a) m := ix2T rfl
    have h4 : gIx2 (headD a b c e) (.int 4) (m ++ g1) = .ok (.int e) (m ++ g1) := ix2T rfl
    obtain ⟨Y, y⟩ : ∃ Y, Y = [b, c] := ⟨_, rfl⟩
    obtain ⟨X1, x1⟩ : ∃ X, X = 1 :: octs a 3 := ⟨_, rfl⟩
    obtain ⟨X2, x2⟩ : ∃ X, X = X1 ++ Y := ⟨_, rfl⟩
    have s : gSl (headD a b c e) (some 2) (some 4) (m ++ g1) = .ok (byD Y) (m ++ g1) := by rw [y]; rfl
    have a1 : gAdd (.tup [.int 1]) (byD (octs a 3)) (m ++ g1) = .ok (byD X1) (m ++ g1) := by rw [x1]; exact addBy (xs := [1]) (by rw [octs_len]; decide)
    have a2 : gAdd (byD X1) (byD Y) (m ++ g1) = .ok (byD X2) (m ++ g1) := by rw [x2]; exact addBy (by rw [x1, y, List.length_cons, octs_len]; exact (show 3 + 1 + 2 ≤ 100000 by decide))
    have a3 : gAdd (byD X2) (byD (octs e 5)) (m ++ g1 ++ g2) = .ok (byD (headO a b c e)) (m ++ g1 ++ g2) := by
      rw [addBy (by rw [x2, x1, y, List.length_append, List.length_cons, octs_len, octs_len]; exact (show 3 + 1 + 2 + 5 ≤ 100000 by decide))]
      simp [x2, x1, y]
    refine ⟨g1 ++ g2, ?_⟩
    generalize headD a b c e = t at h0 h1 h4 s ⊢
    generalize hu : headO a b c e = u at a3 ⊢
    unfold F_told_octets B_told_octets
    simp only [byD] at e1 e2 s a1 a2 a3 ⊢
    simp only [fnD, startE, List.map_cons, List.map_nil, List.length_cons, List.length_nil, List.replicate, List.cons_append, List.nil_append, Nat.reduceAdd, Nat.reduceSub, Nat.zero_add, sSeq, sIf, sSet, sRet, sRetN, sPass, sExpr, sRaise, sBrk, sCnt, bd_ok, bd_ex, bd_bad, rs_ok, rs_ex, rs_bad, nx_ok, fVar, fC, f2, fCall, aCons, aNil, vAnd, vOr, vNot, fAnd, fOr, fNot, fTru, tr_non, tr_bl, tr_int, tr_tup, tr_rol, fBl, bl_b, fIf, fIsi, gIsi, isiB, ty_non, ty_bl, ty_int, ty_str, ty_tup, ty_rol, fChain, lf_gtI, lf_ltI, lf_leI, lf_geI, addI, subI, List.getElem?_cons_zero, List.getElem?_cons_succ, List.set_cons_zero, List.set_cons_succ, fTup, fLst, tup0, lst0, tup1, lst1, tup2, lst2, tup3, lst3, tup4, lst4, tup5, lst5, tup6, lst6, tup7, lst7, tup8, lst8, tup9, lst9, tup10, lst10, tup11, lst11, tup12, lst12, fNeg, oSome, oNone, Bool.not_true, Bool.not_false, Bool.false_eq_true, if_true, if_false, ite_true, ite_false, lf_int, lf_lenT, lf_lenO, lf_truB, fM1, sSetIx2, sPar, sPar3, kb_NoneType_int, kb_NoneType_str, kb_NoneType_bool, kb_NoneType_tuple, kb_NoneType_list, kb_NoneType_dict, kb_bool_int, kb_bool_str, kb_bool_bool, kb_bool_tuple, kb_bool_list, kb_bool_dict, kb_int_int, kb_int_str, kb_int_bool, kb_int_tuple, kb_int_list, kb_int_dict, kb_str_int, kb_str_str, kb_str_bool, kb_str_tuple, kb_str_list, kb_str_dict, kb_tuple_int, kb_tuple_str, kb_tuple_bool, kb_tuple_tuple, kb_tuple_list, kb_tuple_dict, kb_list_int, kb_list_str, kb_list_bool, kb_list_tuple, kb_list_list, kb_list_dict, kb_dict_int, kb_dict_str, kb_dict_bool, kb_dict_tuple, kb_dict_list, kb_dict_dict, fSl, h0, h1, h4, w_head_blank, w_head_head, e1, a1, s, a2, e2, a3]
    simp only [List.append_assoc]
  len := by simp [octs_len]
  len9 := by simp [octs_len]
  byte := fun x hx => by
    simp only [headO, List.mem_cons, List.mem_append] at hx
    rcases hx with rfl | hx | rfl | rfl | hx
    · decide
    · exact octs_byte _ _ _ hx
    · omega
    · omega
    · exact octs_byte _ _ _ hx
  guess m := ⟨[], by
    have l : (pageOf (headO a b c e)).length = 64 := page_len (by simp [octs_len])
    rw [guess1 (w := wchk (pad (headO a b c e))) l rfl rfl rfl, List.append_nil]
    have n1 : ((wchk (pad (headO a b c e))).drop 1).take 3 = octs a 3 := rfl
    have n2 : ((wchk (pad (headO a b c e))).drop 6).take 5 = octs e 5 := rfl
    rw [n1, n2, num3 (by omega), num5 (by omega)]⟩
  ne m := ne_word (ps := [.int a, .int b, .int c, .int e]) rfl (by simp [SeqAt.shaped, PyData.canLay0, PyData.canLayAll0, PyData.depth, PyData.depthAll]; decide +kernel) (by decide +kernel)
abbrev tailD (a b c : Int) (xs : List Int) : D := .tup [.str "tail", .int a, .int b, .int c, byD xs]
abbrev tailO (a b c : Int) (xs : List Int) : List Int := 3 :: a :: (octs b 3 ++ c :: xs)
theorem told_tail {a b c : Int} {xs : List Int} (ha : 0 ≤ a ∧ a ≤ 23) (hb : 0 ≤ b ∧ b ≤ 16777215) (hc : 0 ≤ c ∧ c ≤ 59) (hx : ByteL xs) (hl : xs.length = 54) : Told (tailD a b c xs) (tailO a b c xs) where
  told m := is_told_tail rfl rfl (ix2T rfl) (by
    have e1 := thingB (m := m) ha
    have e2 := stampB (m := m) hb
    have e3 := numB (m := m) hc
    have e4 := are_bytes (m := m) hx (k := 54) (by omega)
    unfold F_is_told_tail B_is_told_tail
    simp only [fnD, startE, List.map_cons, List.map_nil, List.length_cons, List.length_nil, List.replicate, List.cons_append, List.nil_append, Nat.reduceAdd, Nat.reduceSub, Nat.zero_add, sSeq, sIf, sSet, sRet, sRetN, sPass, sExpr, sRaise, sBrk, sCnt, bd_ok, bd_ex, bd_bad, rs_ok, rs_ex, rs_bad, nx_ok, fVar, fC, f2, fCall, aCons, aNil, vAnd, vOr, vNot, fAnd, fOr, fNot, fTru, tr_non, tr_bl, tr_int, tr_tup, tr_rol, fBl, bl_b, fIf, fIsi, gIsi, isiB, ty_non, ty_bl, ty_int, ty_str, ty_tup, ty_rol, fChain, lf_gtI, lf_ltI, lf_leI, lf_geI, addI, subI, List.getElem?_cons_zero, List.getElem?_cons_succ, List.set_cons_zero, List.set_cons_succ, fTup, fLst, tup0, lst0, tup1, lst1, tup2, lst2, tup3, lst3, tup4, lst4, tup5, lst5, tup6, lst6, tup7, lst7, tup8, lst8, tup9, lst9, tup10, lst10, tup11, lst11, tup12, lst12, fNeg, oSome, oNone, Bool.not_true, Bool.not_false, Bool.false_eq_true, if_true, if_false, ite_true, ite_false, lf_int, lf_lenT, lf_lenO, lf_truB, fM1, sSetIx2, sPar, sPar3, kb_NoneType_int, kb_NoneType_str, kb_NoneType_bool, kb_NoneType_tuple, kb_NoneType_list, kb_NoneType_dict, kb_bool_int, kb_bool_str, kb_bool_bool, kb_bool_tuple, kb_bool_list, kb_bool_dict, kb_int_int, kb_int_str, kb_int_bool, kb_int_tuple, kb_int_list, kb_int_dict, kb_str_int, kb_str_str, kb_str_bool, kb_str_tuple, kb_str_list, kb_str_dict, kb_tuple_int, kb_tuple_str, kb_tuple_bool, kb_tuple_tuple, kb_tuple_list, kb_tuple_dict, kb_list_int, kb_list_str, kb_list_bool, kb_list_tuple, kb_list_list, kb_list_dict, kb_dict_int, kb_dict_str, kb_dict_bool, kb_dict_tuple, kb_dict_list, kb_dict_dict, sAsg, gTupT, gsCons, gsNil, gN, e1, e2, e3, e4])
  octs m := by
    obtain ⟨g1, e1⟩ := oct_run (m := m) (n := b) 3 (K := 3) rfl (by decide)
    have h0 : ∀ m, gIx2 (tailD a b c xs) (.int 0) m = .ok (.str "tail") m := fun m => ix2T rfl
    have h1 : gIx2 (tailD a b c xs) (.int 1) m = .ok (.int a) m := ix2T rfl
    have h2 : gIx2 (tailD a b c xs) (.int 2) m = .ok (.int b) m := ix2T rfl
    have h3 : gIx2 (tailD a b c xs) (.int 3) (m ++ g1) = .ok (.int c) (m ++ g1) := ix2T rfl
    have h4 : gIx2 (tailD a b c xs) (.int 4) (m ++ g1) = .ok (byD xs) (m ++ g1) := ix2T rfl
    obtain ⟨X1, x1⟩ : ∃ X, X = a :: octs b 3 := ⟨_, rfl⟩
    obtain ⟨X2, x2⟩ : ∃ X, X = X1 ++ [c] := ⟨_, rfl⟩
    obtain ⟨X3, x3⟩ : ∃ X, X = 3 :: X2 := ⟨_, rfl⟩
    have l1 : X1.length = 4 := by rw [x1, List.length_cons, octs_len]
    have l2 : X2.length = 5 := by rw [x2, List.length_append, l1]; rfl
    have l3 : X3.length = 6 := by rw [x3, List.length_cons, l2]
    have a1 : gAdd (.tup [.int a]) (byD (octs b 3)) (m ++ g1) = .ok (byD X1) (m ++ g1) := by rw [x1]; exact addBy (xs := [a]) (by rw [octs_len]; exact (show 1 + 3 ≤ 100000 by decide))
    have a2 : gAdd (byD X1) (.tup [.int c]) (m ++ g1) = .ok (byD X2) (m ++ g1) := by rw [x2]; exact addBy (ys := [c]) (by rw [l1]; exact (show 4 + 1 ≤ 100000 by decide))
    have a3 : gAdd (.tup [.int 3]) (byD X2) (m ++ g1) = .ok (byD X3) (m ++ g1) := by rw [x3]; exact addBy (xs := [3]) (by rw [l2]; decide)
    have a4 : gAdd (byD X3) (byD xs) (m ++ g1) = .ok (byD (tailO a b c xs)) (m ++ g1) := by
      rw [addBy (by omega)]
      simp [x3, x2, x1]
    refine ⟨g1, ?_⟩
    generalize tailD a b c xs = t at h0 h1 h2 h3 h4 ⊢
    generalize hu : tailO a b c xs = u at a4 ⊢
    unfold F_told_octets B_told_octets
    simp only [byD] at e1 h4 a1 a2 a3 a4 ⊢
    simp only [fnD, startE, List.map_cons, List.map_nil, List.length_cons, List.length_nil, List.replicate, List.cons_append, List.nil_append, Nat.reduceAdd, Nat.reduceSub, Nat.zero_add, sSeq, sIf, sSet, sRet, sRetN, sPass, sExpr, sRaise, sBrk, sCnt, bd_ok, bd_ex, bd_bad, rs_ok, rs_ex, rs_bad, nx_ok, fVar, fC, f2, fCall, aCons, aNil, vAnd, vOr, vNot, fAnd, fOr, fNot, fTru, tr_non, tr_bl, tr_int, tr_tup, tr_rol, fBl, bl_b, fIf, fIsi, gIsi, isiB, ty_non, ty_bl, ty_int, ty_str, ty_tup, ty_rol, fChain, lf_gtI, lf_ltI, lf_leI, lf_geI, addI, subI, List.getElem?_cons_zero, List.getElem?_cons_succ, List.set_cons_zero, List.set_cons_succ, fTup, fLst, tup0, lst0, tup1, lst1, tup2, lst2, tup3, lst3, tup4, lst4, tup5, lst5, tup6, lst6, tup7, lst7, tup8, lst8, tup9, lst9, tup10, lst10, tup11, lst11, tup12, lst12, fNeg, oSome, oNone, Bool.not_true, Bool.not_false, Bool.false_eq_true, if_true, if_false, ite_true, ite_false, lf_int, lf_lenT, lf_lenO, lf_truB, fM1, sSetIx2, sPar, sPar3, kb_NoneType_int, kb_NoneType_str, kb_NoneType_bool, kb_NoneType_tuple, kb_NoneType_list, kb_NoneType_dict, kb_bool_int, kb_bool_str, kb_bool_bool, kb_bool_tuple, kb_bool_list, kb_bool_dict, kb_int_int, kb_int_str, kb_int_bool, kb_int_tuple, kb_int_list, kb_int_dict, kb_str_int, kb_str_str, kb_str_bool, kb_str_tuple, kb_str_list, kb_str_dict, kb_tuple_int, kb_tuple_str, kb_tuple_bool, kb_tuple_tuple, kb_tuple_list, kb_tuple_dict, kb_list_int, kb_list_str, kb_list_bool, kb_list_tuple, kb_list_list, kb_list_dict, kb_dict_int, kb_dict_str, kb_dict_bool, kb_dict_tuple, kb_dict_list, kb_dict_dict, h0, h1, h2, h3, h4, w_tail_blank, w_tail_head, w_tail_card, w_tail_tail, e1, a1, a2, a3, a4]
  len := by simp [octs_len, hl]
  len9 := by simp [octs_len, hl]
  byte := fun x h => by
    simp only [tailO, List.mem_cons, List.mem_append] at h
    rcases h with rfl | rfl | h | rfl | h
    · decide
    · omega
    · exact octs_byte _ _ _ h
    · omega
    · exact hx _ h
  guess m := ⟨[], by
    have l : (pageOf (tailO a b c xs)).length = 64 := page_len (by simp [octs_len, hl])
    rw [guess3 (w := wchk (pad (tailO a b c xs))) l rfl rfl rfl, List.append_nil]
    have n1 : ((wchk (pad (tailO a b c xs))).drop 2).take 3 = octs b 3 := rfl
    have n2 : (wchk (pad (tailO a b c xs))).drop 6 = (xs ++ List.replicate (60 - (tailO a b c xs).length) 0) ++ (octs (chk1 (pad (tailO a b c xs))) 2 ++ octs (chk2 (pad (tailO a b c xs))) 2) := rfl
    rw [n1, n2, num3 (by omega), List.append_assoc, List.take_left' hl]⟩
  ne m := ne_word (ps := [.int a, .int b, .int c, .tuple (xs.map .int)]) (by simp [pyL, pyD, pyL_ints]) (by simp [SeqAt.shaped, PyData.canLay0, PyData.canLayAll0, PyData.depth, PyData.depthAll, lay_ints, dep_ints]; decide +kernel) (by decide +kernel)
abbrev dataD (a b c : Int) (s : Str) : D := .tup [.str "data", .int a, .int b, .int c, .str s]
abbrev dataO (a b c : Int) (s : Str) : List Int := 4 :: a :: (octs b 3 ++ c :: (s.length : Int) :: cods s)
theorem told_data {a b c : Int} {s : Str} (ha : 0 ≤ a ∧ a ≤ 23) (hb : 0 ≤ b ∧ b ≤ 16777215) (hc : 0 ≤ c ∧ c ≤ 59) (hs : Signs s) (l0 : 1 ≤ s.length) (hl : s.length ≤ 50) : Told (dataD a b c s) (dataO a b c s) where
  told m := is_told_data rfl rfl (ix2T rfl) (by
    have e1 := thingB (m := m) ha
    have e2 := stampB (m := m) hb
    have e3 := numB (m := m) hc
    have e4 := is_contents (m := m) hs (by omega)
    have e5 : gLen [.str s] m = .ok (.int s.length) m := lenS (by omega)
    have e6 : decide ((1 : Int) ≤ (s.length : Int)) = true := decide_eq_true (by omega)
    have e7 : decide ((s.length : Int) ≤ 50) = true := decide_eq_true (by omega)
    unfold F_is_told_data B_is_told_data
    simp only [fnD, startE, List.map_cons, List.map_nil, List.length_cons, List.length_nil, List.replicate, List.cons_append, List.nil_append, Nat.reduceAdd, Nat.reduceSub, Nat.zero_add, sSeq, sIf, sSet, sRet, sRetN, sPass, sExpr, sRaise, sBrk, sCnt, bd_ok, bd_ex, bd_bad, rs_ok, rs_ex, rs_bad, nx_ok, fVar, fC, f2, fCall, aCons, aNil, vAnd, vOr, vNot, fAnd, fOr, fNot, fTru, tr_non, tr_bl, tr_int, tr_tup, tr_rol, fBl, bl_b, fIf, fIsi, gIsi, isiB, ty_non, ty_bl, ty_int, ty_str, ty_tup, ty_rol, fChain, lf_gtI, lf_ltI, lf_leI, lf_geI, addI, subI, List.getElem?_cons_zero, List.getElem?_cons_succ, List.set_cons_zero, List.set_cons_succ, fTup, fLst, tup0, lst0, tup1, lst1, tup2, lst2, tup3, lst3, tup4, lst4, tup5, lst5, tup6, lst6, tup7, lst7, tup8, lst8, tup9, lst9, tup10, lst10, tup11, lst11, tup12, lst12, fNeg, oSome, oNone, Bool.not_true, Bool.not_false, Bool.false_eq_true, if_true, if_false, ite_true, ite_false, lf_int, lf_lenT, lf_lenO, lf_truB, fM1, sSetIx2, sPar, sPar3, kb_NoneType_int, kb_NoneType_str, kb_NoneType_bool, kb_NoneType_tuple, kb_NoneType_list, kb_NoneType_dict, kb_bool_int, kb_bool_str, kb_bool_bool, kb_bool_tuple, kb_bool_list, kb_bool_dict, kb_int_int, kb_int_str, kb_int_bool, kb_int_tuple, kb_int_list, kb_int_dict, kb_str_int, kb_str_str, kb_str_bool, kb_str_tuple, kb_str_list, kb_str_dict, kb_tuple_int, kb_tuple_str, kb_tuple_bool, kb_tuple_tuple, kb_tuple_list, kb_tuple_dict, kb_list_int, kb_list_str, kb_list_bool, kb_list_tuple, kb_list_list, kb_list_dict, kb_dict_int, kb_dict_str, kb_dict_bool, kb_dict_tuple, kb_dict_list, kb_dict_dict, sAsg, gTupT, gsCons, gsNil, gN, e1, e2, e3, e4, e5, e6, e7])
  octs m := by
    obtain ⟨g1, e1⟩ := oct_run (m := m) (n := b) 3 (K := 3) rfl (by decide)
    obtain ⟨g2, e2⟩ := text_octets (m := m ++ g1) (s := s) (by omega)
    have h0 : ∀ m, gIx2 (dataD a b c s) (.int 0) m = .ok (.str "data") m := fun m => ix2T rfl
    have h1 : gIx2 (dataD a b c s) (.int 1) m = .ok (.int a) m := ix2T rfl
    have h2 : gIx2 (dataD a b c s) (.int 2) m = .ok (.int b) m := ix2T rfl
    have h3 : gIx2 (dataD a b c s) (.int 3) (m ++ g1) = .ok (.int c) (m ++ g1) := ix2T rfl
    have h4 : gIx2 (dataD a b c s) (.int 4) (m ++ g1) = .ok (.str s) (m ++ g1) := ix2T rfl
    have e5 : gLen [.str s] (m ++ g1) = .ok (.int s.length) (m ++ g1) := lenS (by omega)
    obtain ⟨X1, x1⟩ : ∃ X, X = a :: octs b 3 := ⟨_, rfl⟩
    obtain ⟨X2, x2⟩ : ∃ X, X = X1 ++ [c] := ⟨_, rfl⟩
    obtain ⟨X3, x3⟩ : ∃ X, X = 4 :: X2 := ⟨_, rfl⟩
    obtain ⟨X4, x4⟩ : ∃ X, X = X3 ++ [(s.length : Int)] := ⟨_, rfl⟩
    have l1 : X1.length = 4 := by rw [x1, List.length_cons, octs_len]
    have l2 : X2.length = 5 := by rw [x2, List.length_append, l1]; rfl
    have l3 : X3.length = 6 := by rw [x3, List.length_cons, l2]
    have l4 : X4.length = 7 := by rw [x4, List.length_append, l3]; rfl
    have a1 : gAdd (.tup [.int a]) (byD (octs b 3)) (m ++ g1) = .ok (byD X1) (m ++ g1) := by rw [x1]; exact addBy (xs := [a]) (by rw [octs_len]; exact (show 1 + 3 ≤ 100000 by decide))
    have a2 : gAdd (byD X1) (.tup [.int c]) (m ++ g1) = .ok (byD X2) (m ++ g1) := by rw [x2]; exact addBy (ys := [c]) (by rw [l1]; exact (show 4 + 1 ≤ 100000 by decide))
    have a3 : gAdd (.tup [.int 4]) (byD X2) (m ++ g1) = .ok (byD X3) (m ++ g1) := by rw [x3]; exact addBy (xs := [4]) (by rw [l2]; decide)
    have a4 : gAdd (byD X3) (.tup [.int (s.length : Int)]) (m ++ g1) = .ok (byD X4) (m ++ g1) := by rw [x4]; exact addBy (ys := [(s.length : Int)]) (by rw [l3]; exact (show 6 + 1 ≤ 100000 by decide))
    have a5 : gAdd (byD X4) (byD (cods s)) (m ++ g1 ++ g2) = .ok (byD (dataO a b c s)) (m ++ g1 ++ g2) := by
      rw [addBy (by rw [cods_len]; omega)]
      simp [x4, x3, x2, x1]
    refine ⟨g1 ++ g2, ?_⟩
    generalize dataD a b c s = t at h0 h1 h2 h3 h4 ⊢
    generalize hu : dataO a b c s = u at a5 ⊢
    unfold F_told_octets B_told_octets
    simp only [byD] at e1 e2 a1 a2 a3 a4 a5 ⊢
    simp only [fnD, startE, List.map_cons, List.map_nil, List.length_cons, List.length_nil, List.replicate, List.cons_append, List.nil_append, Nat.reduceAdd, Nat.reduceSub, Nat.zero_add, sSeq, sIf, sSet, sRet, sRetN, sPass, sExpr, sRaise, sBrk, sCnt, bd_ok, bd_ex, bd_bad, rs_ok, rs_ex, rs_bad, nx_ok, fVar, fC, f2, fCall, aCons, aNil, vAnd, vOr, vNot, fAnd, fOr, fNot, fTru, tr_non, tr_bl, tr_int, tr_tup, tr_rol, fBl, bl_b, fIf, fIsi, gIsi, isiB, ty_non, ty_bl, ty_int, ty_str, ty_tup, ty_rol, fChain, lf_gtI, lf_ltI, lf_leI, lf_geI, addI, subI, List.getElem?_cons_zero, List.getElem?_cons_succ, List.set_cons_zero, List.set_cons_succ, fTup, fLst, tup0, lst0, tup1, lst1, tup2, lst2, tup3, lst3, tup4, lst4, tup5, lst5, tup6, lst6, tup7, lst7, tup8, lst8, tup9, lst9, tup10, lst10, tup11, lst11, tup12, lst12, fNeg, oSome, oNone, Bool.not_true, Bool.not_false, Bool.false_eq_true, if_true, if_false, ite_true, ite_false, lf_int, lf_lenT, lf_lenO, lf_truB, fM1, sSetIx2, sPar, sPar3, kb_NoneType_int, kb_NoneType_str, kb_NoneType_bool, kb_NoneType_tuple, kb_NoneType_list, kb_NoneType_dict, kb_bool_int, kb_bool_str, kb_bool_bool, kb_bool_tuple, kb_bool_list, kb_bool_dict, kb_int_int, kb_int_str, kb_int_bool, kb_int_tuple, kb_int_list, kb_int_dict, kb_str_int, kb_str_str, kb_str_bool, kb_str_tuple, kb_str_list, kb_str_dict, kb_tuple_int, kb_tuple_str, kb_tuple_bool, kb_tuple_tuple, kb_tuple_list, kb_tuple_dict, kb_list_int, kb_list_str, kb_list_bool, kb_list_tuple, kb_list_list, kb_list_dict, kb_dict_int, kb_dict_str, kb_dict_bool, kb_dict_tuple, kb_dict_list, kb_dict_dict, h0, h1, h2, h3, h4, w_data_blank, w_data_head, w_data_card, w_data_tail, e1, a1, a2, a3, e5, a4, e2, a5]
    simp only [List.append_assoc]
  len := by simp [octs_len, cods_len]; omega
  len9 := by simp [octs_len, cods_len]; omega
  byte := fun x h => by
    simp only [dataO, List.mem_cons, List.mem_append] at h
    rcases h with rfl | rfl | h | rfl | rfl | h
    · decide
    · omega
    · exact octs_byte _ _ _ h
    · omega
    · omega
    · exact cods_byte hs _ h
  guess m := by
    have l : (pageOf (dataO a b c s)).length = 64 := page_len (by simp [octs_len, cods_len]; omega)
    have n1 : ((wchk (pad (dataO a b c s))).drop 2).take 3 = octs b 3 := rfl
    have n2 : (wchk (pad (dataO a b c s))).drop 7 = (cods s ++ List.replicate (60 - (dataO a b c s).length) 0) ++ (octs (chk1 (pad (dataO a b c s))) 2 ++ octs (chk2 (pad (dataO a b c s))) 2) := rfl
    obtain ⟨g, e⟩ := guess4 (m := m) (w := wchk (pad (dataO a b c s))) (s := s) l rfl rfl rfl rfl hs (by rw [n2, List.append_assoc, List.take_left' (cods_len s)]) hl
    refine ⟨g, ?_⟩
    rw [e, n1, num3 (by omega)]
  ne m := ne_word (ps := [.int a, .int b, .int c, .str s]) rfl (by simp [SeqAt.shaped, PyData.canLay0, PyData.canLayAll0, PyData.depth, PyData.depthAll, hs.ok]; decide +kernel) (by decide +kernel)
end
end Pm
end
section
set_option Elab.async false
set_option Elab.async false
set_option linter.all false
set_option maxRecDepth 100000
set_option maxHeartbeats 4000000
namespace K06
open PySem L2 Mn Pk
def topS (i : Nat) : Stmt := PySem.Challenge.pw_keptanyhow_k06_whole_changes_found.main.body.getD i (.Pass ⟨0, 0, 0, 0⟩)
abbrev s_is_number : Stmt := topS 11
abbrev N_is_number : List Str := ["value", "least", "most"]
theorem sc_is_number : FnScope N_is_number ["value", "least", "most"] (defScope s_is_number) := ⟨rfl, rfl, rfl, by decide +kernel, rfl, by decide +kernel, by decide +kernel⟩
abbrev s_is_stamp : Stmt := topS 12
abbrev N_is_stamp : List Str := ["value"]
theorem sc_is_stamp : FnScope N_is_stamp ["value"] (defScope s_is_stamp) := ⟨rfl, rfl, rfl, by decide +kernel, rfl, by decide +kernel, by decide +kernel⟩
abbrev s_is_thing : Stmt := topS 13
abbrev N_is_thing : List Str := ["value"]
theorem sc_is_thing : FnScope N_is_thing ["value"] (defScope s_is_thing) := ⟨rfl, rfl, rfl, by decide +kernel, rfl, by decide +kernel, by decide +kernel⟩
abbrev s_is_page_number : Stmt := topS 14
abbrev N_is_page_number : List Str := ["value"]
theorem sc_is_page_number : FnScope N_is_page_number ["value"] (defScope s_is_page_number) := ⟨rfl, rfl, rfl, by decide +kernel, rfl, by decide +kernel, by decide +kernel⟩
abbrev s_has_only : Stmt := topS 18
abbrev N_has_only : List Str := ["text", "signs"]
theorem sc_has_only : FnScope N_has_only ["text", "signs"] (defScope s_has_only) := ⟨rfl, rfl, rfl, by decide +kernel, rfl, by decide +kernel, by decide +kernel⟩
abbrev s_is_contents : Stmt := topS 19
abbrev N_is_contents : List Str := ["value"]
theorem sc_is_contents : FnScope N_is_contents ["value"] (defScope s_is_contents) := ⟨rfl, rfl, rfl, by decide +kernel, rfl, by decide +kernel, by decide +kernel⟩
abbrev s_is_bytes : Stmt := topS 24
abbrev N_is_bytes : List Str := ["value", "most", "item"]
theorem sc_is_bytes : FnScope N_is_bytes ["value", "most"] (defScope s_is_bytes) := ⟨rfl, rfl, rfl, by decide +kernel, rfl, by decide +kernel, by decide +kernel⟩
abbrev s_check_bytes : Stmt := topS 25
abbrev N_check_bytes : List Str := ["some", "most"]
theorem sc_check_bytes : FnScope N_check_bytes ["some", "most"] (defScope s_check_bytes) := ⟨rfl, rfl, rfl, by decide +kernel, rfl, by decide +kernel, by decide +kernel⟩
abbrev s_number_octets : Stmt := topS 26
abbrev N_number_octets : List Str := ["number", "count", "found", "rest", "_"]
theorem sc_number_octets : FnScope N_number_octets ["number", "count"] (defScope s_number_octets) := ⟨rfl, rfl, rfl, by decide +kernel, rfl, by decide +kernel, by decide +kernel⟩
abbrev s_octets_number : Stmt := topS 27
abbrev N_octets_number : List Str := ["some", "number", "octet"]
theorem sc_octets_number : FnScope N_octets_number ["some"] (defScope s_octets_number) := ⟨rfl, rfl, rfl, by decide +kernel, rfl, by decide +kernel, by decide +kernel⟩
abbrev s_text_octets : Stmt := topS 28
abbrev N_text_octets : List Str := ["contents", "sign"]
theorem sc_text_octets : FnScope N_text_octets ["contents"] (defScope s_text_octets) := ⟨rfl, rfl, rfl, by decide +kernel, rfl, by decide +kernel, by decide +kernel⟩
abbrev s_octets_text : Stmt := topS 29
abbrev N_octets_text : List Str := ["some", "sign_of", "signs", "sign", "octet"]
theorem sc_octets_text : FnScope N_octets_text ["some"] (defScope s_octets_text) := ⟨rfl, rfl, rfl, by decide +kernel, rfl, by decide +kernel, by decide +kernel⟩
abbrev s_sums_of : Stmt := topS 30
abbrev N_sums_of : List Str := ["some", "plain", "weighed", "at", "octet"]
theorem sc_sums_of : FnScope N_sums_of ["some"] (defScope s_sums_of) := ⟨rfl, rfl, rfl, by decide +kernel, rfl, by decide +kernel, by decide +kernel⟩
abbrev s_octets_with_check : Stmt := topS 31
abbrev N_octets_with_check : List Str := ["some", "plain", "weighed"]
theorem sc_octets_with_check : FnScope N_octets_with_check ["some"] (defScope s_octets_with_check) := ⟨rfl, rfl, rfl, by decide +kernel, rfl, by decide +kernel, by decide +kernel⟩
abbrev s_with_check : Stmt := topS 32
abbrev N_with_check : List Str := ["some"]
theorem sc_with_check : FnScope N_with_check ["some"] (defScope s_with_check) := ⟨rfl, rfl, rfl, by decide +kernel, rfl, by decide +kernel, by decide +kernel⟩
abbrev s_without_check : Stmt := topS 33
abbrev N_without_check : List Str := ["some", "plain"]
theorem sc_without_check : FnScope N_without_check ["some"] (defScope s_without_check) := ⟨rfl, rfl, rfl, by decide +kernel, rfl, by decide +kernel, by decide +kernel⟩
abbrev s_is_page : Stmt := topS 46
abbrev N_is_page : List Str := ["value"]
theorem sc_is_page : FnScope N_is_page ["value"] (defScope s_is_page) := ⟨rfl, rfl, rfl, by decide +kernel, rfl, by decide +kernel, by decide +kernel⟩
abbrev s_are_tails : Stmt := topS 47
abbrev N_are_tails : List Str := ["value", "most", "item"]
theorem sc_are_tails : FnScope N_are_tails ["value", "most"] (defScope s_are_tails) := ⟨rfl, rfl, rfl, by decide +kernel, rfl, by decide +kernel, by decide +kernel⟩
abbrev s_are_bytes : Stmt := topS 48
abbrev N_are_bytes : List Str := ["value", "count"]
theorem sc_are_bytes : FnScope N_are_bytes ["value", "count"] (defScope s_are_bytes) := ⟨rfl, rfl, rfl, by decide +kernel, rfl, by decide +kernel, by decide +kernel⟩
abbrev s_is_told_head : Stmt := topS 49
abbrev N_is_told_head : List Str := ["told", "_", "period", "things", "pages", "total"]
theorem sc_is_told_head : FnScope N_is_told_head ["told"] (defScope s_is_told_head) := ⟨rfl, rfl, rfl, by decide +kernel, rfl, by decide +kernel, by decide +kernel⟩
abbrev s_is_told_card : Stmt := topS 50
abbrev N_is_told_card : List Str := ["told", "_", "thing", "stamp", "period", "length", "tails", "some"]
theorem sc_is_told_card : FnScope N_is_told_card ["told"] (defScope s_is_told_card) := ⟨rfl, rfl, rfl, by decide +kernel, rfl, by decide +kernel, by decide +kernel⟩
abbrev s_is_told_tail : Stmt := topS 51
abbrev N_is_told_tail : List Str := ["told", "_", "thing", "stamp", "index", "some"]
theorem sc_is_told_tail : FnScope N_is_told_tail ["told"] (defScope s_is_told_tail) := ⟨rfl, rfl, rfl, by decide +kernel, rfl, by decide +kernel, by decide +kernel⟩
abbrev s_is_told_data : Stmt := topS 52
abbrev N_is_told_data : List Str := ["told", "_", "thing", "stamp", "index", "contents"]
theorem sc_is_told_data : FnScope N_is_told_data ["told"] (defScope s_is_told_data) := ⟨rfl, rfl, rfl, by decide +kernel, rfl, by decide +kernel, by decide +kernel⟩
abbrev s_is_told : Stmt := topS 53
abbrev N_is_told : List Str := ["value"]
theorem sc_is_told : FnScope N_is_told ["value"] (defScope s_is_told) := ⟨rfl, rfl, rfl, by decide +kernel, rfl, by decide +kernel, by decide +kernel⟩
abbrev s_card_octets : Stmt := topS 54
abbrev N_card_octets : List Str := ["told", "_", "thing", "stamp", "period", "length", "tails", "some", "ahead"]
theorem sc_card_octets : FnScope N_card_octets ["told"] (defScope s_card_octets) := ⟨rfl, rfl, rfl, by decide +kernel, rfl, by decide +kernel, by decide +kernel⟩
abbrev s_told_octets : Stmt := topS 55
abbrev N_told_octets : List Str := ["told", "ahead"]
theorem sc_told_octets : FnScope N_told_octets ["told"] (defScope s_told_octets) := ⟨rfl, rfl, rfl, by decide +kernel, rfl, by decide +kernel, by decide +kernel⟩
abbrev s_page_by : Stmt := topS 56
abbrev N_page_by : List Str := ["told", "octets"]
theorem sc_page_by : FnScope N_page_by ["told"] (defScope s_page_by) := ⟨rfl, rfl, rfl, by decide +kernel, rfl, by decide +kernel, by decide +kernel⟩
abbrev s_guessed : Stmt := topS 57
abbrev N_guessed : List Str := ["page", "stamp", "behind", "period", "length"]
theorem sc_guessed : FnScope N_guessed ["page"] (defScope s_guessed) := ⟨rfl, rfl, rfl, by decide +kernel, rfl, by decide +kernel, by decide +kernel⟩
abbrev s_told_by : Stmt := topS 58
abbrev N_told_by : List Str := ["page", "told"]
theorem sc_told_by : FnScope N_told_by ["page"] (defScope s_told_by) := ⟨rfl, rfl, rfl, by decide +kernel, rfl, by decide +kernel, by decide +kernel⟩
abbrev s_written_page : Stmt := topS 59
abbrev N_written_page : List Str := ["told"]
theorem sc_written_page : FnScope N_written_page ["told"] (defScope s_written_page) := ⟨rfl, rfl, rfl, by decide +kernel, rfl, by decide +kernel, by decide +kernel⟩
abbrev s_told_page : Stmt := topS 60
abbrev N_told_page : List Str := ["page"]
theorem sc_told_page : FnScope N_told_page ["page"] (defScope s_told_page) := ⟨rfl, rfl, rfl, by decide +kernel, rfl, by decide +kernel, by decide +kernel⟩
abbrev s_law_taken : Stmt := topS 62
abbrev N_law_taken : List Str := ["row", "many", "found", "cell"]
theorem sc_law_taken : FnScope N_law_taken ["row", "many"] (defScope s_law_taken) := ⟨rfl, rfl, rfl, by decide +kernel, rfl, by decide +kernel, by decide +kernel⟩
abbrev s_law_pick : Stmt := topS 63
abbrev N_law_pick : List Str := ["row", "kinds"]
theorem sc_law_pick : FnScope N_law_pick ["row", "kinds"] (defScope s_law_pick) := ⟨rfl, rfl, rfl, by decide +kernel, rfl, by decide +kernel, by decide +kernel⟩
abbrev s_law_changed : Stmt := topS 64
abbrev N_law_changed : List Str := ["row", "some", "many", "found", "spots", "spot"]
theorem sc_law_changed : FnScope N_law_changed ["row", "some", "many"] (defScope s_law_changed) := ⟨rfl, rfl, rfl, by decide +kernel, rfl, by decide +kernel, by decide +kernel⟩
def ETAB : ETab := []
abbrev s_law : Stmt := topS 65
abbrev N_law : List Str := ["script", "row", "long", "whole", "turn", "bent", "signs", "tolds", "page"]
theorem sc_law : FnScope N_law ["script"] (defScope s_law) := ⟨rfl, rfl, rfl, by decide +kernel, rfl, by decide +kernel, by decide +kernel⟩
structure Txt (w : World) (K : PySem.W.Frag) (mg : Str → Option Value) : Prop where
  b_all : mg "all" = none
  b_bool : mg "bool" = none
  b_enumerate : mg "enumerate" = none
  b_int : mg "int" = none
  b_isinstance : mg "isinstance" = none
  b_len : mg "len" = none
  b_list : mg "list" = none
  b_ord : mg "ord" = none
  b_range : mg "range" = none
  b_set : mg "set" = none
  b_str : mg "str" = none
  b_sum : mg "sum" = none
  b_tuple : mg "tuple" = none
  c_CARD_BYTES : ∃ t, mg "CARD_BYTES" = some (.int 49 t)
  c_CHECK_BYTES : ∃ t, mg "CHECK_BYTES" = some (.int 4 t)
  c_CHECK_PRIME : ∃ t, mg "CHECK_PRIME" = some (.int 257 t)
  c_MOST_CHECKED : ∃ t, mg "MOST_CHECKED" = some (.int 250 t)
  c_MOST_FREE_PAGES : ∃ t, mg "MOST_FREE_PAGES" = some (.int 200 t)
  c_MOST_IMAGE : ∃ t, mg "MOST_IMAGE" = some (.int 250 t)
  c_MOST_INDEX : ∃ t, mg "MOST_INDEX" = some (.int 59 t)
  c_MOST_LENGTH : ∃ t, mg "MOST_LENGTH" = some (.int 1000 t)
  c_MOST_SIGNS : ∃ t, mg "MOST_SIGNS" = some (.int 2000 t)
  c_MOST_STAMP : ∃ t, mg "MOST_STAMP" = some (.int 16777215 t)
  c_MOST_SUM : ∃ t, mg "MOST_SUM" = some (.int 4294967296 t)
  c_MOST_TAILS : ∃ t, mg "MOST_TAILS" = some (.int 20 t)
  c_MOST_THINGS : ∃ t, mg "MOST_THINGS" = some (.int 24 t)
  c_PAGE_BYTES : ∃ t, mg "PAGE_BYTES" = some (.int 64 t)
  c_PIECE_SIGNS : ∃ t, mg "PIECE_SIGNS" = some (.int 50 t)
  c_SIGNS : ∃ t, mg "SIGNS" = some (.str "abcdefghijklmnopqrstuvwxyzABCDEFGHIJKLMNOPQRSTUVWXYZ0123456789 .,:;=>/-+_()!?" t)
  c_TAIL_BYTES : ∃ t, mg "TAIL_BYTES" = some (.int 54 t)
  c_TOLD_BYTES : ∃ t, mg "TOLD_BYTES" = some (.int 60 t)
  cc_BAD : ConV K mg "BAD" (.tup [.str "bad"])
  cc_BLANK : ConV K mg "BLANK" (.tup [.int 0, .int 0, .int 0, .int 0, .int 0, .int 0, .int 0, .int 0, .int 0, .int 0, .int 0, .int 0, .int 0, .int 0, .int 0, .int 0, .int 0, .int 0, .int 0, .int 0, .int 0, .int 0, .int 0, .int 0, .int 0, .int 0, .int 0, .int 0, .int 0, .int 0, .int 0, .int 0, .int 0, .int 0, .int 0, .int 0, .int 0, .int 0, .int 0, .int 0, .int 0, .int 0, .int 0, .int 0, .int 0, .int 0, .int 0, .int 0, .int 0, .int 0, .int 0, .int 0, .int 0, .int 0, .int 0, .int 0, .int 0, .int 0, .int 0, .int 0, .int 0, .int 0, .int 0, .int 0])
  cd_MANY_ITEMS : DicV K w mg "MANY_ITEMS" [("blank", .int 1), ("head", .int 5), ("card", .int 7), ("tail", .int 5), ("data", .int 5)]
  tab : TabOk K mg ETAB
  e_BadBytes : ErrOk K mg "BadBytes"
  e_BadPage : ErrOk K mg "BadPage"
  e_BadTold : ErrOk K mg "BadTold"
  f_is_number : FunAt K mg "is_number" s_is_number ["value", "least", "most"]
  f_is_stamp : FunAt K mg "is_stamp" s_is_stamp ["value"]
  f_is_thing : FunAt K mg "is_thing" s_is_thing ["value"]
  f_is_page_number : FunAt K mg "is_page_number" s_is_page_number ["value"]
  f_has_only : FunAt K mg "has_only" s_has_only ["text", "signs"]
  f_is_contents : FunAt K mg "is_contents" s_is_contents ["value"]
  f_is_bytes : FunAt K mg "is_bytes" s_is_bytes ["value", "most"]
  f_check_bytes : FunAt K mg "check_bytes" s_check_bytes ["some", "most"]
  f_number_octets : FunAt K mg "number_octets" s_number_octets ["number", "count"]
  f_octets_number : FunAt K mg "octets_number" s_octets_number ["some"]
  f_text_octets : FunAt K mg "text_octets" s_text_octets ["contents"]
  f_octets_text : FunAt K mg "octets_text" s_octets_text ["some"]
  f_sums_of : FunAt K mg "sums_of" s_sums_of ["some"]
  f_octets_with_check : FunAt K mg "octets_with_check" s_octets_with_check ["some"]
  f_with_check : FunAt K mg "with_check" s_with_check ["some"]
  f_without_check : FunAt K mg "without_check" s_without_check ["some"]
  f_is_page : FunAt K mg "is_page" s_is_page ["value"]
  f_are_tails : FunAt K mg "are_tails" s_are_tails ["value", "most"]
  f_are_bytes : FunAt K mg "are_bytes" s_are_bytes ["value", "count"]
  f_is_told_head : FunAt K mg "is_told_head" s_is_told_head ["told"]
  f_is_told_card : FunAt K mg "is_told_card" s_is_told_card ["told"]
  f_is_told_tail : FunAt K mg "is_told_tail" s_is_told_tail ["told"]
  f_is_told_data : FunAt K mg "is_told_data" s_is_told_data ["told"]
  f_is_told : FunAt K mg "is_told" s_is_told ["value"]
  f_card_octets : FunAt K mg "card_octets" s_card_octets ["told"]
  f_told_octets : FunAt K mg "told_octets" s_told_octets ["told"]
  f_page_by : FunAt K mg "page_by" s_page_by ["told"]
  f_guessed : FunAt K mg "guessed" s_guessed ["page"]
  f_told_by : FunAt K mg "told_by" s_told_by ["page"]
  f_written_page : FunAt K mg "written_page" s_written_page ["told"]
  f_told_page : FunAt K mg "told_page" s_told_page ["page"]
  f_law_taken : FunAt K mg "_law_taken" s_law_taken ["row", "many"]
  f_law_pick : FunAt K mg "_law_pick" s_law_pick ["row", "kinds"]
  f_law_changed : FunAt K mg "_law_changed" s_law_changed ["row", "some", "many"]
section
variable [Clo] {P : Program} {w : World} {K : PySem.W.Frag} {mg : Str → Option Value} {base : Heap}
theorem ok_is_number (T : Txt w K mg) : DefOk P w K mg base 1 "is_number" 3 F_is_number := def_ok T.f_is_number sc_is_number rfl B_is_number fun f cdv A outer s H E hr =>
  (m_one (m_ret (m_vand (m_isi1 "int" T.b_isinstance T.b_int bt_int (m_var 0)) (m_vand (m_vnot (m_isi1 "bool" T.b_isinstance T.b_bool bt_bool (m_var 0))) (m_vone (m_chain op_leA op_leA os_le os_le (m_var 1) (m_var 0) (m_var 2)))))))
theorem ok_has_only (T : Txt w K mg) : DefOk P w K mg base 1 "has_only" 2 F_has_only := def_ok T.f_has_only sc_has_only rfl B_has_only fun f cdv A outer s H E hr =>
  (m_one (m_ret (m_cmp (op_eqD hr.units) os_eq (nomark _) (m_m1 PySem.F.slot_str_strip PySem.F.type_str_strip mt_stripChars ms_stripC (m_var 0) (m_var 1)) m_str)))
theorem ok_is_bytes (T : Txt w K mg) : DefOk P w K mg base 1 "is_bytes" 2 F_is_bytes := def_ok T.f_is_bytes sc_is_bytes rfl B_is_bytes fun f cdv A outer s H E hr =>
  (m_cons (m_if (PW.pt (m_or (m_not (m_tru (m_isi1 "tuple" T.b_isinstance T.b_tuple bt_tuple (m_var 0)))) (m_or1 (m_cmpT op_gtA os_gt (nomark _) (m_callB call_len cs_len T.b_len bt_len (m_acons (m_var 0) m_anil)) (m_var 1))))) (m_one (m_ret m_bl)) m_nil)
    (m_cons (m_for po_def rfl (pi_seq2 (m_var 0)) wi_seq2 (pg_name (i := 2) sc_is_bytes.nd rfl (Or.inl rfl)) (tg_name 2) (m_one (m_if (PW.pt (m_or (m_not (m_tru (m_isi1 "int" T.b_isinstance T.b_int bt_int (m_var 2)))) (m_or (m_tru (m_isi1 "bool" T.b_isinstance T.b_bool bt_bool (m_var 2))) (m_or1 (m_not (m_chainT op_leA op_leA os_le os_le m_int (m_var 2) m_int)))))) (m_one (m_ret m_bl)) m_nil)))
    (m_one (m_ret m_bl))))
theorem ok_number_octets (T : Txt w K mg) : DefOk P w K mg base 1 "number_octets" 2 F_number_octets := def_ok T.f_number_octets sc_number_octets rfl B_number_octets fun f cdv A outer s H E hr =>
  (m_cons (m_set 2 sc_number_octets.nd (m_lst m_anil))
    (m_cons (m_set 3 sc_number_octets.nd (m_var 0))
    (m_cons (m_for po_def rfl (pi_range1 rfl T.b_range (m_acons (m_var 1) m_anil)) (wi_rng1 alen1) (pg_name (i := 4) sc_number_octets.nd rfl (Or.inl rfl)) (tg_name 4) (m_cons (m_expr (m_append (m_var 2) (m_acons (m_op op_mod os_mod (m_var 3) m_int) m_anil)))
    (m_one (m_set 3 sc_number_octets.nd (m_op op_fdiv os_div (m_var 3) m_int)))))
    (m_one (m_ret (m_callTy call_tuple_of cs_tupOf T.b_tuple bt_tuple (m_acons (m_rev (m_var 2)) m_anil)))))))
theorem ok_octets_number (T : Txt w K mg) : DefOk P w K mg base 1 "octets_number" 1 F_octets_number := def_ok T.f_octets_number sc_octets_number rfl B_octets_number fun f cdv A outer s H E hr =>
  (m_cons (m_set 1 sc_octets_number.nd m_int)
    (m_cons (m_for po_def rfl (pi_seq2 (m_var 0)) wi_seq2 (pg_name (i := 2) sc_octets_number.nd rfl (Or.inl rfl)) (tg_name 2) (m_one (m_set 1 sc_octets_number.nd (m_op op_addA os_add (m_op op_mul2 os_mul2 (m_var 1) m_int) (m_var 2)))))
    (m_one (m_ret (m_var 1)))))
theorem ok_text_octets (T : Txt w K mg) : DefOk P w K mg base 1 "text_octets" 1 F_text_octets := def_ok T.f_text_octets sc_text_octets rfl B_text_octets fun f cdv A outer s H E hr =>
  (m_one (m_ret (m_callTy call_tuple_of cs_tupOf T.b_tuple bt_tuple (m_acons (m_lc [("sign", 1)] rfl sc_text_octets.nd (pi_seq2 (m_var 0)) wi_seq2 (blkOk_by (own := [("sign", 1)]) (N := N_text_octets) (sc := defScope s_text_octets) (by decide +kernel)) (tg_name 1) (tw_name (by decide)) (fun _ _ _ _ _ => (pg_name (i := 1) sc_text_octets.nd rfl (Or.inl rfl))) (fun _ _ _ _ _ => m_noifs) (fun _ _ _ _ _ => (m_callB call_ord cs_ord T.b_ord bt_ord (m_acons (m_var 1) m_anil)))) m_anil))))
theorem ok_octets_text (T : Txt w K mg) : DefOk P w K mg base 1 "octets_text" 1 F_octets_text := def_ok T.f_octets_text sc_octets_text rfl B_octets_text fun f cdv A outer s H E hr =>
  (m_cons (m_set 1 sc_octets_text.nd (m_dc [("sign", 3)] rfl sc_octets_text.nd (pi_seq2 (m_gstr T.c_SIGNS)) wi_seq2 (blkOk_by (own := [("sign", 3)]) (N := N_octets_text) (sc := defScope s_octets_text) (by decide +kernel)) (tg_name 3) (tw_name (by decide)) (fun _ _ _ _ _ => (pg_name (i := 3) sc_octets_text.nd rfl (Or.inl rfl))) (fun _ _ _ _ _ => m_noifs) (fun _ _ _ _ _ => (m_callB call_ord cs_ord T.b_ord bt_ord (m_acons (m_var 3) m_anil))) (fun _ _ _ _ _ => (m_var 3))))
    (m_cons (m_setLc 2 [("octet", 4)] rfl sc_octets_text.nd (pi_seq2 (m_var 0)) wi_seq2 (blkOk_by (own := [("octet", 4)]) (N := N_octets_text) (sc := defScope s_octets_text) (by decide +kernel)) (tg_name 4) (tw_name (by decide)) (fun _ _ _ _ _ => (pg_name (i := 4) sc_octets_text.nd rfl (Or.inl rfl))) (fun _ _ _ _ _ => m_noifs) (fun _ _ _ _ _ => (m_get1 (hu_of hr) (m_var 1) (m_var 4))))
    (m_cons (m_if (m_cmpT (op_in2 (u65 hr)) os_in2 (by rfl) m_non (m_var 2)) (m_one (m_ret m_non)) m_nil)
    (m_one (m_ret (m_m1 PySem.F.slot_str_join PySem.F.type_str_join mt_join ms_join m_str (m_var 2)))))))
theorem ok_sums_of (T : Txt w K mg) : DefOk P w K mg base 1 "sums_of" 1 F_sums_of := def_ok T.f_sums_of sc_sums_of rfl B_sums_of fun f cdv A outer s H E hr =>
  (m_cons (m_set 1 sc_sums_of.nd (m_callB (cr_sum2 rfl) cs_sum2 T.b_sum bt_sum (m_acons (m_var 0) m_anil)))
    (m_cons (m_set 2 sc_sums_of.nd (m_callB (cr_sum2 rfl) cs_sum2 T.b_sum bt_sum (m_acons (m_lc [("at", 3), ("octet", 4)] rfl sc_sums_of.nd (pi_enumA rfl T.b_enumerate (m_acons (m_var 0) m_anil)) wi_enum (blkOk_by (own := [("at", 3), ("octet", 4)]) (N := N_sums_of) (sc := defScope s_sums_of) (by decide +kernel)) (tg_tup (tgs_cons (tg_name 3) (tgs_cons (tg_name 4) tgs_nil))) (tw_of (tw2_tup (tws2_cons (tw2_name (by decide)) (tws2_cons (tw2_name (by decide)) tws2_nil)))) (fun _ _ _ _ _ => (pg_tup rfl (pgs_cons (pg_name (i := 3) sc_sums_of.nd rfl (Or.inl rfl)) (pgs_cons (pg_name (i := 4) sc_sums_of.nd rfl (Or.inl rfl)) pgs_nil)))) (fun _ _ _ _ _ => m_noifs) (fun _ _ _ _ _ => (m_op op_mul2 os_mul2 (m_op op_addA os_add (m_var 3) m_int) (m_var 4)))) m_anil)))
    (m_one (m_ret (m_tup (m_acons (m_op op_mod os_mod (m_var 1) (m_gint T.c_CHECK_PRIME)) (m_acons (m_op op_mod os_mod (m_var 2) (m_gint T.c_CHECK_PRIME)) m_anil)))))))
theorem ok_law_taken (T : Txt w K mg) : DefOk P w K mg base 1 "_law_taken" 2 F_law_taken := def_ok T.f_law_taken sc_law_taken rfl B_law_taken fun f cdv A outer s H E hr =>
  (m_cons (m_if (m_cmpT op_gtA os_gt (nomark _) (m_ix (ix_all (hu_of hr)) os_ix2 (fun _ _ => rfl) (m_var 0) m_int) m_int) (m_cons (m_set 2 sc_law_taken.nd (m_op op_mod os_mod (m_callTy call_int1 cs_int T.b_int bt_int (m_acons (m_ix (ix_all (hu_of hr)) os_ix2 (fun _ _ => rfl) (m_var 0) m_int) m_anil)) (m_var 1)))
    (m_cons (m_setix2 (hu_of hr) (m_op op_fdiv os_div (m_ix (ix_all (hu_of hr)) os_ix2 (fun _ _ => rfl) (m_var 0) m_int) (m_var 1)) (m_var 0) m_int)
    (m_one (m_ret (m_var 2))))) m_nil)
    (m_cons (m_setix2 (hu_of hr) (m_op op_addA os_add (m_ix (ix_all (hu_of hr)) os_ix2 (fun _ _ => rfl) (m_var 0) m_int) m_int) (m_var 0) m_int)
    (m_cons (m_if (m_cmpT op_gtA os_gt (nomark _) (m_ix (ix_all (hu_of hr)) os_ix2 (fun _ _ => rfl) (m_var 0) m_int) (m_callB call_len cs_len T.b_len bt_len (m_acons (m_ix (ix_all (hu_of hr)) os_ix2 (fun _ _ => rfl) (m_var 0) m_int) m_anil))) (m_cons (m_setix2 (hu_of hr) (m_op op_mod os_mod (m_callTy call_int1 cs_int T.b_int bt_int (m_acons (m_op op_addA os_add (m_op op_mul2 os_mul2 (m_ix (ix_all (hu_of hr)) os_ix2 (fun _ _ => rfl) (m_var 0) m_int) m_int) m_int) m_anil)) m_int) (m_var 0) m_int)
    (m_one (m_ret (m_op op_mod os_mod (m_callTy call_int1 cs_int T.b_int bt_int (m_acons (m_op op_fdiv os_div (m_ix (ix_all (hu_of hr)) os_ix2 (fun _ _ => rfl) (m_var 0) m_int) m_int) m_anil)) (m_var 1))))) m_nil)
    (m_cons (m_set 3 sc_law_taken.nd (m_ix (ix_all (hu_of hr)) os_ix2 (fun _ _ => rfl) (m_ix (ix_all (hu_of hr)) os_ix2 (fun _ _ => rfl) (m_var 0) m_int) (m_op op_sub os_sub (m_ix (ix_all (hu_of hr)) os_ix2 (fun _ _ => rfl) (m_var 0) m_int) m_int)))
    (m_cons (m_setix2 (hu_of hr) (m_op op_mod os_mod (m_callTy call_int1 cs_int T.b_int bt_int (m_acons (m_op op_addA os_add (m_op op_addA os_add (m_op op_mul2 os_mul2 (m_ix (ix_all (hu_of hr)) os_ix2 (fun _ _ => rfl) (m_var 0) m_int) m_int) (m_var 3)) m_int) m_anil)) m_int) (m_var 0) m_int)
    (m_cons (m_if (m_cmpT op_geA os_ge (nomark _) (m_var 3) (m_op op_pow os_pow m_int m_int)) (m_one (m_setix2 (hu_of hr) (m_op op_fdiv os_div (m_var 3) (m_var 1)) (m_var 0) m_int)) m_nil)
    (m_one (m_ret (m_op op_mod os_mod (m_callTy call_int1 cs_int T.b_int bt_int (m_acons (m_var 3) m_anil)) (m_var 1))))))))))
theorem ok_is_stamp (T : Txt w K mg) : DefOk P w K mg base 2 "is_stamp" 1 F_is_stamp := def_ok T.f_is_stamp sc_is_stamp rfl B_is_stamp fun f cdv A outer s H E hr =>
  (m_one (m_ret (m_call (ok_is_number T) (hr.mono (by decide)) tk_def (m_acons (m_var 0) (m_acons m_int (m_acons (m_gint T.c_MOST_STAMP) m_anil))) (alenS (alenS (alenS alen0))))))
theorem ok_is_thing (T : Txt w K mg) : DefOk P w K mg base 2 "is_thing" 1 F_is_thing := def_ok T.f_is_thing sc_is_thing rfl B_is_thing fun f cdv A outer s H E hr =>
  (m_one (m_ret (m_call (ok_is_number T) (hr.mono (by decide)) tk_def (m_acons (m_var 0) (m_acons m_int (m_acons (m_op op_sub os_sub (m_gint T.c_MOST_THINGS) m_int) m_anil))) (alenS (alenS (alenS alen0))))))
theorem ok_is_page_number (T : Txt w K mg) : DefOk P w K mg base 2 "is_page_number" 1 F_is_page_number := def_ok T.f_is_page_number sc_is_page_number rfl B_is_page_number fun f cdv A outer s H E hr =>
  (m_one (m_ret (m_call (ok_is_number T) (hr.mono (by decide)) tk_def (m_acons (m_var 0) (m_acons m_int (m_acons (m_op op_sub os_sub (m_gint T.c_MOST_IMAGE) m_int) m_anil))) (alenS (alenS (alenS alen0))))))
theorem ok_is_contents (T : Txt w K mg) : DefOk P w K mg base 2 "is_contents" 1 F_is_contents := def_ok T.f_is_contents sc_is_contents rfl B_is_contents fun f cdv A outer s H E hr =>
  (m_one (m_ret (m_vand (m_isi1 "str" T.b_isinstance T.b_str bt_str (m_var 0)) (m_vand (m_cmp op_leA os_le (nomark _) (m_callB call_len cs_len T.b_len bt_len (m_acons (m_var 0) m_anil)) (m_gint T.c_MOST_SIGNS)) (m_vone (m_call (ok_has_only T) (hr.mono (by decide)) tk_def (m_acons (m_var 0) (m_acons (m_gstr T.c_SIGNS) m_anil)) (alenS (alenS alen0))))))))
theorem ok_check_bytes (T : Txt w K mg) : DefOk P w K mg base 2 "check_bytes" 2 F_check_bytes := def_ok T.f_check_bytes sc_check_bytes rfl B_check_bytes fun f cdv A outer s H E hr =>
  (m_one (m_if (m_not (m_tru (m_call (ok_is_bytes T) (hr.mono (by decide)) tk_def (m_acons (m_var 0) (m_acons (m_var 1) m_anil)) (alenS (alenS alen0))))) (m_one (m_raiseX tk_def T.e_BadBytes)) m_nil))
theorem ok_octets_with_check (T : Txt w K mg) : DefOk P w K mg base 2 "octets_with_check" 1 F_octets_with_check := def_ok T.f_octets_with_check sc_octets_with_check rfl B_octets_with_check fun f cdv A outer s H E hr =>
  (m_cons (m_asg (m_call (ok_sums_of T) (hr.mono (by decide)) tk_def (m_acons (m_var 0) m_anil) (alenS alen0)) (pg_tup rfl (pgs_cons (pg_name (i := 1) sc_octets_with_check.nd rfl (Or.inl rfl)) (pgs_cons (pg_name (i := 2) sc_octets_with_check.nd rfl (Or.inl rfl)) pgs_nil))) (tg_tup (tgs_cons (tg_name 1) (tgs_cons (tg_name 2) tgs_nil))))
    (m_one (m_ret (m_op op_addA os_add (m_op op_addA os_add (m_var 0) (m_call (ok_number_octets T) (hr.mono (by decide)) tk_def (m_acons (m_var 1) (m_acons m_int m_anil)) (alenS (alenS alen0)))) (m_call (ok_number_octets T) (hr.mono (by decide)) tk_def (m_acons (m_var 2) (m_acons m_int m_anil)) (alenS (alenS alen0)))))))
theorem ok_is_page (T : Txt w K mg) : DefOk P w K mg base 2 "is_page" 1 F_is_page := def_ok T.f_is_page sc_is_page rfl B_is_page fun f cdv A outer s H E hr =>
  (m_one (m_ret (m_vor (m_cmp op_isN os_isN (nomark _) (m_var 0) m_non) (m_vone (m_vand (m_call (ok_is_bytes T) (hr.mono (by decide)) tk_def (m_acons (m_var 0) (m_acons (m_gint T.c_PAGE_BYTES) m_anil)) (alenS (alenS alen0))) (m_vone (m_cmp (op_eqD hr.units) os_eq (nomark _) (m_callB call_len cs_len T.b_len bt_len (m_acons (m_var 0) m_anil)) (m_gint T.c_PAGE_BYTES))))))))
theorem ok_are_bytes (T : Txt w K mg) : DefOk P w K mg base 2 "are_bytes" 2 F_are_bytes := def_ok T.f_are_bytes sc_are_bytes rfl B_are_bytes fun f cdv A outer s H E hr =>
  (m_one (m_ret (m_vand (m_call (ok_is_bytes T) (hr.mono (by decide)) tk_def (m_acons (m_var 0) (m_acons (m_var 1) m_anil)) (alenS (alenS alen0))) (m_vone (m_cmp (op_eqD hr.units) os_eq (nomark _) (m_callB call_len cs_len T.b_len bt_len (m_acons (m_var 0) m_anil)) (m_var 1))))))
theorem ok_card_octets (T : Txt w K mg) : DefOk P w K mg base 2 "card_octets" 1 F_card_octets := def_ok T.f_card_octets sc_card_octets rfl B_card_octets fun f cdv A outer s H E hr =>
  (m_cons (m_asg (m_var 0) (pg_tup rfl (pgs_cons (pg_name (i := 1) sc_card_octets.nd rfl (Or.inl rfl)) (pgs_cons (pg_name (i := 2) sc_card_octets.nd rfl (Or.inl rfl)) (pgs_cons (pg_name (i := 3) sc_card_octets.nd rfl (Or.inl rfl)) (pgs_cons (pg_name (i := 4) sc_card_octets.nd rfl (Or.inl rfl)) (pgs_cons (pg_name (i := 5) sc_card_octets.nd rfl (Or.inl rfl)) (pgs_cons (pg_name (i := 6) sc_card_octets.nd rfl (Or.inl rfl)) (pgs_cons (pg_name (i := 7) sc_card_octets.nd rfl (Or.inl rfl)) pgs_nil)))))))) (tg_tup (tgs_cons (tg_name 1) (tgs_cons (tg_name 2) (tgs_cons (tg_name 3) (tgs_cons (tg_name 4) (tgs_cons (tg_name 5) (tgs_cons (tg_name 6) (tgs_cons (tg_name 7) tgs_nil)))))))))
    (m_cons (m_set 8 sc_card_octets.nd (m_op op_addA os_add (m_op op_addA os_add (m_op op_addA os_add (m_tup (m_acons m_int (m_acons (m_var 2) m_anil))) (m_call (ok_number_octets T) (hr.mono (by decide)) tk_def (m_acons (m_var 3) (m_acons m_int m_anil)) (alenS (alenS alen0)))) (m_call (ok_number_octets T) (hr.mono (by decide)) tk_def (m_acons (m_var 4) (m_acons m_int m_anil)) (alenS (alenS alen0)))) (m_call (ok_number_octets T) (hr.mono (by decide)) tk_def (m_acons (m_var 5) (m_acons m_int m_anil)) (alenS (alenS alen0)))))
    (m_one (m_ret (m_op op_addA os_add (m_op op_addA os_add (m_op op_addA os_add (m_var 8) (m_tup (m_acons (m_callB call_len cs_len T.b_len bt_len (m_acons (m_var 6) m_anil)) m_anil))) (m_var 6)) (m_var 7))))))
theorem ok_guessed (T : Txt w K mg) : DefOk P w K mg base 2 "guessed" 1 F_guessed := def_ok T.f_guessed sc_guessed rfl B_guessed fun f cdv A outer s H E hr =>
  (m_cons (m_set 1 sc_guessed.nd (m_call (ok_octets_number T) (hr.mono (by decide)) tk_def (m_acons (m_slice (m_var 0) (m_osome m_int) (m_osome m_int)) m_anil) (alenS alen0)))
    (m_cons (m_if (m_cmpT (op_eqD hr.units) os_eq (nomark _) (m_ix (ix_all (hu_of hr)) os_ix2 (fun _ _ => rfl) (m_var 0) m_int) m_int) (m_one (m_ret (m_tup (m_acons m_str m_anil)))) m_nil)
    (m_cons (m_if (m_cmpT (op_eqD hr.units) os_eq (nomark _) (m_ix (ix_all (hu_of hr)) os_ix2 (fun _ _ => rfl) (m_var 0) m_int) m_int) (m_one (m_ret (m_tup (m_acons m_str (m_acons (m_call (ok_octets_number T) (hr.mono (by decide)) tk_def (m_acons (m_slice (m_var 0) (m_osome m_int) (m_osome m_int)) m_anil) (alenS alen0)) (m_acons (m_ix (ix_all (hu_of hr)) os_ix2 (fun _ _ => rfl) (m_var 0) m_int) (m_acons (m_ix (ix_all (hu_of hr)) os_ix2 (fun _ _ => rfl) (m_var 0) m_int) (m_acons (m_call (ok_octets_number T) (hr.mono (by decide)) tk_def (m_acons (m_slice (m_var 0) (m_osome m_int) (m_osome m_int)) m_anil) (alenS alen0)) m_anil)))))))) m_nil)
    (m_cons (m_if (m_cmpT (op_eqD hr.units) os_eq (nomark _) (m_ix (ix_all (hu_of hr)) os_ix2 (fun _ _ => rfl) (m_var 0) m_int) m_int) (m_cons (m_set 2 sc_guessed.nd (m_op op_addA os_add m_int (m_ix (ix_all (hu_of hr)) os_ix2 (fun _ _ => rfl) (m_var 0) m_int)))
    (m_cons (m_set 3 sc_guessed.nd (m_call (ok_octets_number T) (hr.mono (by decide)) tk_def (m_acons (m_slice (m_var 0) (m_osome m_int) (m_osome m_int)) m_anil) (alenS alen0)))
    (m_cons (m_set 4 sc_guessed.nd (m_call (ok_octets_number T) (hr.mono (by decide)) tk_def (m_acons (m_slice (m_var 0) (m_osome m_int) (m_osome m_int)) m_anil) (alenS alen0)))
    (m_one (m_ret (m_tup (m_acons m_str (m_acons (m_ix (ix_all (hu_of hr)) os_ix2 (fun _ _ => rfl) (m_var 0) m_int) (m_acons (m_var 1) (m_acons (m_var 3) (m_acons (m_var 4) (m_acons (m_slice (m_var 0) (m_osome m_int) (m_osome (m_var 2))) (m_acons (m_slice (m_var 0) (m_osome (m_var 2)) (m_osome (m_gint T.c_TOLD_BYTES))) m_anil))))))))))))) m_nil)
    (m_cons (m_if (m_cmpT (op_eqD hr.units) os_eq (nomark _) (m_ix (ix_all (hu_of hr)) os_ix2 (fun _ _ => rfl) (m_var 0) m_int) m_int) (m_one (m_ret (m_tup (m_acons m_str (m_acons (m_ix (ix_all (hu_of hr)) os_ix2 (fun _ _ => rfl) (m_var 0) m_int) (m_acons (m_var 1) (m_acons (m_ix (ix_all (hu_of hr)) os_ix2 (fun _ _ => rfl) (m_var 0) m_int) (m_acons (m_slice (m_var 0) (m_osome m_int) (m_osome (m_gint T.c_TOLD_BYTES))) m_anil)))))))) m_nil)
    (m_cons (m_if (m_cmpT (op_eqD hr.units) os_eq (nomark _) (m_ix (ix_all (hu_of hr)) os_ix2 (fun _ _ => rfl) (m_var 0) m_int) m_int) (m_one (m_ret (m_tup (m_acons m_str (m_acons (m_ix (ix_all (hu_of hr)) os_ix2 (fun _ _ => rfl) (m_var 0) m_int) (m_acons (m_var 1) (m_acons (m_ix (ix_all (hu_of hr)) os_ix2 (fun _ _ => rfl) (m_var 0) m_int) (m_acons (m_call (ok_octets_text T) (hr.mono (by decide)) tk_def (m_acons (m_slice (m_var 0) (m_osome m_int) (m_osome (m_op op_addA os_add m_int (m_ix (ix_all (hu_of hr)) os_ix2 (fun _ _ => rfl) (m_var 0) m_int)))) m_anil) (alenS alen0)) m_anil)))))))) m_nil)
    (m_one (m_ret (m_gcon T.cc_BAD)))))))))
theorem ok_law_pick (T : Txt w K mg) : DefOk P w K mg base 2 "_law_pick" 2 F_law_pick := def_ok T.f_law_pick sc_law_pick rfl B_law_pick fun f cdv A outer s H E hr =>
  (m_one (m_ret (m_ix (ix_all (hu_of hr)) os_ix2 (fun _ _ => rfl) (m_var 1) (m_call (ok_law_taken T) (hr.mono (by decide)) tk_def (m_acons (m_var 0) (m_acons (m_callB call_len cs_len T.b_len bt_len (m_acons (m_var 1) m_anil)) m_anil)) (alenS (alenS alen0))))))
theorem ok_with_check (T : Txt w K mg) : DefOk P w K mg base 3 "with_check" 1 F_with_check := def_ok T.f_with_check sc_with_check rfl B_with_check fun f cdv A outer s H E hr =>
  (m_cons (m_expr (m_call (ok_check_bytes T) (hr.mono (by decide)) tk_def (m_acons (m_var 0) (m_acons (m_gint T.c_MOST_CHECKED) m_anil)) (alenS (alenS alen0))))
    (m_one (m_ret (m_call (ok_octets_with_check T) (hr.mono (by decide)) tk_def (m_acons (m_var 0) m_anil) (alenS alen0)))))
theorem ok_without_check (T : Txt w K mg) : DefOk P w K mg base 3 "without_check" 1 F_without_check := def_ok T.f_without_check sc_without_check rfl B_without_check fun f cdv A outer s H E hr =>
  (m_cons (m_expr (m_call (ok_check_bytes T) (hr.mono (by decide)) tk_def (m_acons (m_var 0) (m_acons (m_op op_addA os_add (m_gint T.c_MOST_CHECKED) (m_gint T.c_CHECK_BYTES)) m_anil)) (alenS (alenS alen0))))
    (m_cons (m_if (m_cmpT op_ltA os_lt (nomark _) (m_callB call_len cs_len T.b_len bt_len (m_acons (m_var 0) m_anil)) (m_gint T.c_CHECK_BYTES)) (m_one (m_ret m_non)) m_nil)
    (m_cons (m_set 1 sc_without_check.nd (m_slice (m_var 0) m_onone (m_osome (m_neg (m_gint T.c_CHECK_BYTES)))))
    (m_one (m_ret (m_ifx (m_cmpT (op_eqD hr.units) os_eq (nomark _) (m_call (ok_octets_with_check T) (hr.mono (by decide)) tk_def (m_acons (m_var 1) m_anil) (alenS alen0)) (m_var 0)) (m_var 1) m_non))))))
theorem ok_are_tails (T : Txt w K mg) : DefOk P w K mg base 3 "are_tails" 2 F_are_tails := def_ok T.f_are_tails sc_are_tails rfl B_are_tails fun f cdv A outer s H E hr =>
  (m_cons (m_if (PW.pt (m_or (m_not (m_tru (m_isi1 "tuple" T.b_isinstance T.b_tuple bt_tuple (m_var 0)))) (m_or (m_cmpT op_gtA os_gt (nomark _) (m_callB call_len cs_len T.b_len bt_len (m_acons (m_var 0) m_anil)) (m_var 1)) (m_or1 (m_not (m_tru (m_callB (cr_all rfl) cs_all T.b_all bt_all (m_acons (m_lc [("item", 2)] rfl sc_are_tails.nd (pi_seq2 (m_var 0)) wi_seq2 (blkOk_by (own := [("item", 2)]) (N := N_are_tails) (sc := defScope s_are_tails) (by decide +kernel)) (tg_name 2) (tw_name (by decide)) (fun _ _ _ _ _ => (pg_name (i := 2) sc_are_tails.nd rfl (Or.inl rfl))) (fun _ _ _ _ _ => m_noifs) (fun _ _ _ _ _ => (m_call (ok_is_page_number T) (hr.mono (by decide)) takes0 (m_acons (m_var 2) m_anil) (alenS alen0)))) m_anil)))))))) (m_one (m_ret m_bl)) m_nil)
    (m_one (m_ret (m_cmp (op_eqD hr.units) os_eq (nomark _) (m_lenSet rfl T.b_len T.b_set (m_var 0)) (m_callB call_len cs_len T.b_len bt_len (m_acons (m_var 0) m_anil))))))
theorem ok_is_told_head (T : Txt w K mg) : DefOk P w K mg base 3 "is_told_head" 1 F_is_told_head := def_ok T.f_is_told_head sc_is_told_head rfl B_is_told_head fun f cdv A outer s H E hr =>
  (m_cons (m_asg (m_var 0) (pg_tup rfl (pgs_cons (pg_name (i := 1) sc_is_told_head.nd rfl (Or.inl rfl)) (pgs_cons (pg_name (i := 2) sc_is_told_head.nd rfl (Or.inl rfl)) (pgs_cons (pg_name (i := 3) sc_is_told_head.nd rfl (Or.inl rfl)) (pgs_cons (pg_name (i := 4) sc_is_told_head.nd rfl (Or.inl rfl)) (pgs_cons (pg_name (i := 5) sc_is_told_head.nd rfl (Or.inl rfl)) pgs_nil)))))) (tg_tup (tgs_cons (tg_name 1) (tgs_cons (tg_name 2) (tgs_cons (tg_name 3) (tgs_cons (tg_name 4) (tgs_cons (tg_name 5) tgs_nil)))))))
    (m_cons (m_if (PW.pt (m_or (m_not (m_tru (m_call (ok_is_stamp T) (hr.mono (by decide)) tk_def (m_acons (m_var 2) m_anil) (alenS alen0)))) (m_or1 (m_not (m_tru (m_call (ok_is_number T) (hr.mono (by decide)) tk_def (m_acons (m_var 5) (m_acons m_int (m_acons (m_gint T.c_MOST_SUM) m_anil))) (alenS (alenS (alenS alen0))))))))) (m_one (m_ret m_bl)) m_nil)
    (m_one (m_ret (m_vand (m_call (ok_is_number T) (hr.mono (by decide)) tk_def (m_acons (m_var 3) (m_acons m_int (m_acons (m_gint T.c_MOST_THINGS) m_anil))) (alenS (alenS (alenS alen0)))) (m_vone (m_call (ok_is_number T) (hr.mono (by decide)) tk_def (m_acons (m_var 4) (m_acons m_int (m_acons (m_gint T.c_MOST_FREE_PAGES) m_anil))) (alenS (alenS (alenS alen0))))))))))
theorem ok_is_told_tail (T : Txt w K mg) : DefOk P w K mg base 3 "is_told_tail" 1 F_is_told_tail := def_ok T.f_is_told_tail sc_is_told_tail rfl B_is_told_tail fun f cdv A outer s H E hr =>
  (m_cons (m_asg (m_var 0) (pg_tup rfl (pgs_cons (pg_name (i := 1) sc_is_told_tail.nd rfl (Or.inl rfl)) (pgs_cons (pg_name (i := 2) sc_is_told_tail.nd rfl (Or.inl rfl)) (pgs_cons (pg_name (i := 3) sc_is_told_tail.nd rfl (Or.inl rfl)) (pgs_cons (pg_name (i := 4) sc_is_told_tail.nd rfl (Or.inl rfl)) (pgs_cons (pg_name (i := 5) sc_is_told_tail.nd rfl (Or.inl rfl)) pgs_nil)))))) (tg_tup (tgs_cons (tg_name 1) (tgs_cons (tg_name 2) (tgs_cons (tg_name 3) (tgs_cons (tg_name 4) (tgs_cons (tg_name 5) tgs_nil)))))))
    (m_cons (m_if (PW.pt (m_or (m_not (m_tru (m_call (ok_is_thing T) (hr.mono (by decide)) tk_def (m_acons (m_var 2) m_anil) (alenS alen0)))) (m_or (m_not (m_tru (m_call (ok_is_stamp T) (hr.mono (by decide)) tk_def (m_acons (m_var 3) m_anil) (alenS alen0)))) (m_or1 (m_not (m_tru (m_call (ok_is_number T) (hr.mono (by decide)) tk_def (m_acons (m_var 4) (m_acons m_int (m_acons (m_gint T.c_MOST_INDEX) m_anil))) (alenS (alenS (alenS alen0)))))))))) (m_one (m_ret m_bl)) m_nil)
    (m_one (m_ret (m_call (ok_are_bytes T) (hr.mono (by decide)) tk_def (m_acons (m_var 5) (m_acons (m_gint T.c_TAIL_BYTES) m_anil)) (alenS (alenS alen0)))))))
theorem ok_is_told_data (T : Txt w K mg) : DefOk P w K mg base 3 "is_told_data" 1 F_is_told_data := def_ok T.f_is_told_data sc_is_told_data rfl B_is_told_data fun f cdv A outer s H E hr =>
  (m_cons (m_asg (m_var 0) (pg_tup rfl (pgs_cons (pg_name (i := 1) sc_is_told_data.nd rfl (Or.inl rfl)) (pgs_cons (pg_name (i := 2) sc_is_told_data.nd rfl (Or.inl rfl)) (pgs_cons (pg_name (i := 3) sc_is_told_data.nd rfl (Or.inl rfl)) (pgs_cons (pg_name (i := 4) sc_is_told_data.nd rfl (Or.inl rfl)) (pgs_cons (pg_name (i := 5) sc_is_told_data.nd rfl (Or.inl rfl)) pgs_nil)))))) (tg_tup (tgs_cons (tg_name 1) (tgs_cons (tg_name 2) (tgs_cons (tg_name 3) (tgs_cons (tg_name 4) (tgs_cons (tg_name 5) tgs_nil)))))))
    (m_cons (m_if (PW.pt (m_or (m_not (m_tru (m_call (ok_is_thing T) (hr.mono (by decide)) tk_def (m_acons (m_var 2) m_anil) (alenS alen0)))) (m_or (m_not (m_tru (m_call (ok_is_stamp T) (hr.mono (by decide)) tk_def (m_acons (m_var 3) m_anil) (alenS alen0)))) (m_or1 (m_not (m_tru (m_call (ok_is_number T) (hr.mono (by decide)) tk_def (m_acons (m_var 4) (m_acons m_int (m_acons (m_gint T.c_MOST_INDEX) m_anil))) (alenS (alenS (alenS alen0)))))))))) (m_one (m_ret m_bl)) m_nil)
    (m_one (m_ret (m_vand (m_call (ok_is_contents T) (hr.mono (by decide)) tk_def (m_acons (m_var 5) m_anil) (alenS alen0)) (m_vone (m_chain op_leA op_leA os_le os_le m_int (m_callB call_len cs_len T.b_len bt_len (m_acons (m_var 5) m_anil)) (m_gint T.c_PIECE_SIGNS))))))))
theorem ok_told_octets (T : Txt w K mg) : DefOk P w K mg base 3 "told_octets" 1 F_told_octets := def_ok T.f_told_octets sc_told_octets rfl B_told_octets fun f cdv A outer s H E hr =>
  (m_cons (m_if (m_cmpT (op_eqD hr.units) os_eq (nomark _) (m_ix (ix_all (hu_of hr)) os_ix2 (fun _ _ => rfl) (m_var 0) m_int) m_str) (m_one (m_ret (m_tup m_anil))) m_nil)
    (m_cons (m_if (m_cmpT (op_eqD hr.units) os_eq (nomark _) (m_ix (ix_all (hu_of hr)) os_ix2 (fun _ _ => rfl) (m_var 0) m_int) m_str) (m_one (m_ret (m_op op_addA os_add (m_op op_addA os_add (m_op op_addA os_add (m_tup (m_acons m_int m_anil)) (m_call (ok_number_octets T) (hr.mono (by decide)) tk_def (m_acons (m_ix (ix_all (hu_of hr)) os_ix2 (fun _ _ => rfl) (m_var 0) m_int) (m_acons m_int m_anil)) (alenS (alenS alen0)))) (m_slice (m_var 0) (m_osome m_int) (m_osome m_int))) (m_call (ok_number_octets T) (hr.mono (by decide)) tk_def (m_acons (m_ix (ix_all (hu_of hr)) os_ix2 (fun _ _ => rfl) (m_var 0) m_int) (m_acons m_int m_anil)) (alenS (alenS alen0)))))) m_nil)
    (m_cons (m_if (m_cmpT (op_eqD hr.units) os_eq (nomark _) (m_ix (ix_all (hu_of hr)) os_ix2 (fun _ _ => rfl) (m_var 0) m_int) m_str) (m_one (m_ret (m_call (ok_card_octets T) (hr.mono (by decide)) tk_def (m_acons (m_var 0) m_anil) (alenS alen0)))) m_nil)
    (m_cons (m_set 1 sc_told_octets.nd (m_op op_addA os_add (m_op op_addA os_add (m_tup (m_acons (m_ix (ix_all (hu_of hr)) os_ix2 (fun _ _ => rfl) (m_var 0) m_int) m_anil)) (m_call (ok_number_octets T) (hr.mono (by decide)) tk_def (m_acons (m_ix (ix_all (hu_of hr)) os_ix2 (fun _ _ => rfl) (m_var 0) m_int) (m_acons m_int m_anil)) (alenS (alenS alen0)))) (m_tup (m_acons (m_ix (ix_all (hu_of hr)) os_ix2 (fun _ _ => rfl) (m_var 0) m_int) m_anil))))
    (m_cons (m_if (m_cmpT (op_eqD hr.units) os_eq (nomark _) (m_ix (ix_all (hu_of hr)) os_ix2 (fun _ _ => rfl) (m_var 0) m_int) m_str) (m_one (m_ret (m_op op_addA os_add (m_op op_addA os_add (m_tup (m_acons m_int m_anil)) (m_var 1)) (m_ix (ix_all (hu_of hr)) os_ix2 (fun _ _ => rfl) (m_var 0) m_int)))) m_nil)
    (m_one (m_ret (m_op op_addA os_add (m_op op_addA os_add (m_op op_addA os_add (m_tup (m_acons m_int m_anil)) (m_var 1)) (m_tup (m_acons (m_callB call_len cs_len T.b_len bt_len (m_acons (m_ix (ix_all (hu_of hr)) os_ix2 (fun _ _ => rfl) (m_var 0) m_int) m_anil)) m_anil))) (m_call (ok_text_octets T) (hr.mono (by decide)) tk_def (m_acons (m_ix (ix_all (hu_of hr)) os_ix2 (fun _ _ => rfl) (m_var 0) m_int) m_anil) (alenS alen0))))))))))
theorem ok_law_changed (T : Txt w K mg) : DefOk P w K mg base 3 "_law_changed" 3 F_law_changed := def_ok T.f_law_changed sc_law_changed rfl B_law_changed fun f cdv A outer s H E hr =>
  (m_cons (m_set 3 sc_law_changed.nd (m_callTy (call_lst2 rfl) cs_lst2 T.b_list bt_list (m_acons (m_var 1) m_anil)))
    (m_cons (m_set 4 sc_law_changed.nd (m_lst (m_acons (m_call (ok_law_taken T) (hr.mono (by decide)) tk_def (m_acons (m_var 0) (m_acons (m_var 2) m_anil)) (alenS (alenS alen0))) (m_acons (m_call (ok_law_taken T) (hr.mono (by decide)) tk_def (m_acons (m_var 0) (m_acons (m_var 2) m_anil)) (alenS (alenS alen0))) m_anil))))
    (m_cons (m_for po_def rfl (pi_seq2 (m_slice (m_var 4) m_onone (m_osome (m_op op_addA os_add m_int (m_call (ok_law_taken T) (hr.mono (by decide)) tk_def (m_acons (m_var 0) (m_acons m_int m_anil)) (alenS (alenS alen0))))))) wi_seq2 (pg_name (i := 5) sc_law_changed.nd rfl (Or.inl rfl)) (tg_name 5) (m_one (m_setix2 (hu_of hr) (m_op op_mod os_mod (m_op op_addA os_add (m_op op_addA os_add (m_ix (ix_all (hu_of hr)) os_ix2 (fun _ _ => rfl) (m_var 1) (m_var 5)) m_int) (m_call (ok_law_pick T) (hr.mono (by decide)) tk_def (m_acons (m_var 0) (m_acons (m_lst (m_acons m_int (m_acons m_int (m_acons m_int (m_acons (m_call (ok_law_taken T) (hr.mono (by decide)) tk_def (m_acons (m_var 0) (m_acons m_int m_anil)) (alenS (alenS alen0))) m_anil))))) m_anil)) (alenS (alenS alen0)))) m_int) (m_var 3) (m_var 5))))
    (m_one (m_ret (m_callTy call_tuple_of cs_tupOf T.b_tuple bt_tuple (m_acons (m_var 3) m_anil)))))))
theorem ok_is_told_card (T : Txt w K mg) : DefOk P w K mg base 4 "is_told_card" 1 F_is_told_card := def_ok T.f_is_told_card sc_is_told_card rfl B_is_told_card fun f cdv A outer s H E hr =>
  (m_cons (m_asg (m_var 0) (pg_tup rfl (pgs_cons (pg_name (i := 1) sc_is_told_card.nd rfl (Or.inl rfl)) (pgs_cons (pg_name (i := 2) sc_is_told_card.nd rfl (Or.inl rfl)) (pgs_cons (pg_name (i := 3) sc_is_told_card.nd rfl (Or.inl rfl)) (pgs_cons (pg_name (i := 4) sc_is_told_card.nd rfl (Or.inl rfl)) (pgs_cons (pg_name (i := 5) sc_is_told_card.nd rfl (Or.inl rfl)) (pgs_cons (pg_name (i := 6) sc_is_told_card.nd rfl (Or.inl rfl)) (pgs_cons (pg_name (i := 7) sc_is_told_card.nd rfl (Or.inl rfl)) pgs_nil)))))))) (tg_tup (tgs_cons (tg_name 1) (tgs_cons (tg_name 2) (tgs_cons (tg_name 3) (tgs_cons (tg_name 4) (tgs_cons (tg_name 5) (tgs_cons (tg_name 6) (tgs_cons (tg_name 7) tgs_nil)))))))))
    (m_cons (m_if (PW.pt (m_or (m_not (m_tru (m_call (ok_is_thing T) (hr.mono (by decide)) tk_def (m_acons (m_var 2) m_anil) (alenS alen0)))) (m_or (m_not (m_tru (m_call (ok_is_stamp T) (hr.mono (by decide)) tk_def (m_acons (m_var 3) m_anil) (alenS alen0)))) (m_or1 (m_not (m_tru (m_call (ok_is_stamp T) (hr.mono (by decide)) tk_def (m_acons (m_var 4) m_anil) (alenS alen0)))))))) (m_one (m_ret m_bl)) m_nil)
    (m_cons (m_if (PW.pt (m_or (m_not (m_tru (m_call (ok_is_number T) (hr.mono (by decide)) tk_def (m_acons (m_var 5) (m_acons m_int (m_acons (m_gint T.c_MOST_LENGTH) m_anil))) (alenS (alenS (alenS alen0)))))) (m_or1 (m_not (m_tru (m_call (ok_are_tails T) (hr.mono (by decide)) tk_def (m_acons (m_var 6) (m_acons (m_gint T.c_MOST_TAILS) m_anil)) (alenS (alenS alen0)))))))) (m_one (m_ret m_bl)) m_nil)
    (m_one (m_ret (m_call (ok_are_bytes T) (hr.mono (by decide)) tk_def (m_acons (m_var 7) (m_acons (m_op op_sub os_sub (m_gint T.c_CARD_BYTES) (m_callB call_len cs_len T.b_len bt_len (m_acons (m_var 6) m_anil))) m_anil)) (alenS (alenS alen0))))))))
theorem ok_page_by (T : Txt w K mg) : DefOk P w K mg base 4 "page_by" 1 F_page_by := def_ok T.f_page_by sc_page_by rfl B_page_by fun f cdv A outer s H E hr =>
  (m_cons (m_set 1 sc_page_by.nd (m_call (ok_told_octets T) (hr.mono (by decide)) tk_def (m_acons (m_var 0) m_anil) (alenS alen0)))
    (m_one (m_ret (m_call (ok_octets_with_check T) (hr.mono (by decide)) tk_def (m_acons (m_op op_addA os_add (m_var 1) (m_op op_mul2 os_mul2 (m_tup (m_acons m_int m_anil)) (m_op op_sub os_sub (m_gint T.c_TOLD_BYTES) (m_callB call_len cs_len T.b_len bt_len (m_acons (m_var 1) m_anil))))) m_anil) (alenS alen0)))))
theorem ok_is_told (T : Txt w K mg) : DefOk P w K mg base 5 "is_told" 1 F_is_told := def_ok T.f_is_told sc_is_told rfl B_is_told fun f cdv A outer s H E hr =>
  (m_cons (m_if (PW.pt (m_or (m_not (m_tru (m_isi1 "tuple" T.b_isinstance T.b_tuple bt_tuple (m_var 0)))) (m_or (m_cmpT (op_eqD hr.units) os_eq (nomark _) (m_callB call_len cs_len T.b_len bt_len (m_acons (m_var 0) m_anil)) m_int) (m_or1 (m_not (m_tru (m_isi1 "str" T.b_isinstance T.b_str bt_str (m_ix (ix_all (hu_of hr)) os_ix2 (fun _ _ => rfl) (m_var 0) m_int)))))))) (m_one (m_ret m_bl)) m_nil)
    (m_cons (m_if (PW.pt (m_or (m_notInKT T.cd_MANY_ITEMS (m_ix (ix_all (hu_of hr)) os_ix2 (fun _ _ => rfl) (m_var 0) m_int)) (m_or1 (m_cmpT (op_neD hr.units) os_ne (nomark _) (m_callB call_len cs_len T.b_len bt_len (m_acons (m_var 0) m_anil)) (m_ixK T.cd_MANY_ITEMS (m_ix (ix_all (hu_of hr)) os_ix2 (fun _ _ => rfl) (m_var 0) m_int)))))) (m_one (m_ret m_bl)) m_nil)
    (m_cons (m_if (m_cmpT (op_eqD hr.units) os_eq (nomark _) (m_ix (ix_all (hu_of hr)) os_ix2 (fun _ _ => rfl) (m_var 0) m_int) m_str) (m_one (m_ret (m_call (ok_is_told_head T) (hr.mono (by decide)) tk_def (m_acons (m_var 0) m_anil) (alenS alen0)))) m_nil)
    (m_cons (m_if (m_cmpT (op_eqD hr.units) os_eq (nomark _) (m_ix (ix_all (hu_of hr)) os_ix2 (fun _ _ => rfl) (m_var 0) m_int) m_str) (m_one (m_ret (m_call (ok_is_told_card T) (hr.mono (by decide)) tk_def (m_acons (m_var 0) m_anil) (alenS alen0)))) m_nil)
    (m_cons (m_if (m_cmpT (op_eqD hr.units) os_eq (nomark _) (m_ix (ix_all (hu_of hr)) os_ix2 (fun _ _ => rfl) (m_var 0) m_int) m_str) (m_one (m_ret (m_call (ok_is_told_tail T) (hr.mono (by decide)) tk_def (m_acons (m_var 0) m_anil) (alenS alen0)))) m_nil)
    (m_one (m_ret (m_vor (m_cmp (op_eqD hr.units) os_eq (nomark _) (m_ix (ix_all (hu_of hr)) os_ix2 (fun _ _ => rfl) (m_var 0) m_int) m_str) (m_vone (m_call (ok_is_told_data T) (hr.mono (by decide)) tk_def (m_acons (m_var 0) m_anil) (alenS alen0)))))))))))
theorem ok_told_by (T : Txt w K mg) : DefOk P w K mg base 6 "told_by" 1 F_told_by := def_ok T.f_told_by sc_told_by rfl B_told_by fun f cdv A outer s H E hr =>
  (m_cons (m_if (m_cmpT (op_eqD hr.units) os_eq (nomark _) (m_var 0) (m_gcon T.cc_BLANK)) (m_one (m_ret (m_tup (m_acons m_str m_anil)))) m_nil)
    (m_cons (m_if (PW.pt (m_or (m_cmpT op_isN os_isN (nomark _) (m_var 0) m_non) (m_or1 (m_cmpT (op_neD hr.units) os_ne (nomark _) (m_var 0) (m_call (ok_octets_with_check T) (hr.mono (by decide)) tk_def (m_acons (m_slice (m_var 0) m_onone (m_osome (m_gint T.c_TOLD_BYTES))) m_anil) (alenS alen0)))))) (m_one (m_ret (m_gcon T.cc_BAD))) m_nil)
    (m_cons (m_set 1 sc_told_by.nd (m_call (ok_guessed T) (hr.mono (by decide)) tk_def (m_acons (m_var 0) m_anil) (alenS alen0)))
    (m_one (m_ret (m_ifx (PW.pt (m_and (m_tru (m_call (ok_is_told T) (hr.mono (by decide)) tk_def (m_acons (m_var 1) m_anil) (alenS alen0))) (m_and1 (m_cmpT (op_eqD hr.units) os_eq (nomark _) (m_call (ok_page_by T) (hr.mono (by decide)) tk_def (m_acons (m_var 1) m_anil) (alenS alen0)) (m_var 0))))) (m_var 1) (m_gcon T.cc_BAD)))))))
theorem ok_written_page (T : Txt w K mg) : DefOk P w K mg base 6 "written_page" 1 F_written_page := def_ok T.f_written_page sc_written_page rfl B_written_page fun f cdv A outer s H E hr =>
  (m_cons (m_if (m_not (m_tru (m_call (ok_is_told T) (hr.mono (by decide)) tk_def (m_acons (m_var 0) m_anil) (alenS alen0)))) (m_one (m_raiseX tk_def T.e_BadTold)) m_nil)
    (m_one (m_ret (m_call (ok_page_by T) (hr.mono (by decide)) tk_def (m_acons (m_var 0) m_anil) (alenS alen0)))))
theorem ok_told_page (T : Txt w K mg) : DefOk P w K mg base 7 "told_page" 1 F_told_page := def_ok T.f_told_page sc_told_page rfl B_told_page fun f cdv A outer s H E hr =>
  (m_cons (m_if (m_not (m_tru (m_call (ok_is_page T) (hr.mono (by decide)) tk_def (m_acons (m_var 0) m_anil) (alenS alen0)))) (m_one (m_raiseX tk_def T.e_BadPage)) m_nil)
    (m_one (m_ret (m_call (ok_told_by T) (hr.mono (by decide)) tk_def (m_acons (m_var 0) m_anil) (alenS alen0)))))
abbrev KK : Nat := 0
def lamL : Nat → Lam
  | _ => lamOf none (.Constant .none 0 ⟨0, 0, 0, 0⟩)
theorem lamL_B : ∀ k, k < 0 → LamB (defScope s_law) N_law (lamL k)
  | k + 0, h => absurd h (by omega)
def semL : Nat → Mn.Env → Mem → Res D
  | _ => fun _ _ => .bad
theorem sem_ok [i : Clo] {f0 : Addr} {cdv : Value} {A0 : Around} {outer0 : List PySem.Env} {s0 : Shared} {H0 : Hp} {E0 : XK} (T : Txt w K mg) : ∀ (j : Nat), j < 0 → ∀ (A : Around) (outer : List PySem.Env) (s : Shared) (H : Hp) (E : XK) (f c' : Addr),
    Room KK (A.deeper (LamX.lamEnv (cxOf (L2.CX P w) P w K mg base N_law "law" (defScope s_law) f0 cdv A0 outer0 s0 H0 E0) (lamL j).sc s.heap.objs.size f c')) →
    PE (LamX.lamCx (cxOf (L2.CX P w) P w K mg base N_law "law" (defScope s_law) f0 cdv A0 outer0 s0 H0 E0) A outer s H E (lamL j).sc f c') (lamL j).body (tE K mg (fun c d _ H => E c d H) (semL j))
  | j + 0, h, _, _, _, _, _, _, _, _ => absurd h (by omega)
def B_law : Mn.Env → Mem → Out := (sSeq (sSet 1 (fLst (aCons (fVar 0) (aCons (fC (.int 0)) (aCons (fC (.int 13906)) (aCons (fC (.int 0)) aNil))))))
    (sSeq (sSet 2 (fCall gTupOf (aCons (fComp [4] (fRng (aCons (fCall F_law_pick (aCons (fVar 1) (aCons (fLst (aCons (fC (.int 0)) (aCons (fC (.int 1)) (aCons (fC (.int 2)) (aCons (fC (.int 60)) (aCons (fC (.int 249)) (aCons (fC (.int 250)) aNil))))))) aNil))) aNil)) (gN 4) ftYes (fCall F_law_pick (aCons (fVar 1) (aCons (fLst (aCons (fC (.int 0)) (aCons (fC (.int 255)) (aCons (fCall F_law_taken (aCons (fVar 1) (aCons (fC (.int 256)) aNil))) aNil)))) aNil)))) aNil)))
    (sSeq (sSet 3 (fCall F_with_check (aCons (fVar 2) aNil)))
    (sSeq (sFor (fRng (aCons (fC (.int 12)) aNil)) (gN 4) (sSeq (sSet 5 (fCall F_law_changed (aCons (fVar 1) (aCons (fVar 3) (aCons (fCall gLen (aCons (fVar 3) aNil)) aNil)))))
    (sIf (fBl (f2 gNotN (fCall F_without_check (aCons (fVar 5) aNil)) (fC .non))) (sRet (fC (.bl false))) sPass)))
    (sSeq (sSet 6 (f2 gMul2 (fC (.str "abc 7")) (fC (.int 10))))
    (sSeq (sSet 7 (fLst (aCons (fTup (aCons (fC (.str "blank")) aNil)) (aCons (fTup (aCons (fC (.str "head")) (aCons (fC (.int 7)) (aCons (fC (.int 3)) (aCons (fC (.int 9)) (aCons (fC (.int 12)) aNil)))))) (aCons (fTup (aCons (fC (.str "data")) (aCons (fC (.int 2)) (aCons (fC (.int 70000)) (aCons (fC (.int 3)) (aCons (fSl (fVar 6) oNone (oSome (f2 gAdd (fC (.int 1)) (fCall F_law_taken (aCons (fVar 1) (aCons (fC (.int 50)) aNil)))))) aNil)))))) aNil)))))
    (sSeq (sSet 7 (f2 gAdd (fVar 7) (fLst (aCons (fTup (aCons (fC (.str "tail")) (aCons (fC (.int 1)) (aCons (fC (.int 5)) (aCons (fC (.int 0)) (aCons (fCall gTupOf (aCons (fComp [4] (fRng (aCons (fC (.int 54)) aNil)) (gN 4) ftYes (fCall F_law_taken (aCons (fVar 1) (aCons (fC (.int 256)) aNil)))) aNil)) aNil)))))) aNil))))
    (sSeq (sSet 8 (fCall F_written_page (aCons (fCall F_law_pick (aCons (fVar 1) (aCons (fVar 7) aNil))) aNil)))
    (sSeq (sFor (fRng (aCons (fC (.int 12)) aNil)) (gN 4) (sIf (fBl (f2 gNe (fCall F_told_page (aCons (fCall F_law_changed (aCons (fVar 1) (aCons (fVar 8) (aCons (fC (.int 64)) aNil)))) aNil)) (fTup (aCons (fC (.str "bad")) aNil)))) (sRet (fC (.bl false))) sPass))
    (sRet (vAnd (f2 gNe (fCall F_told_page (aCons (fVar 8) aNil)) (fTup (aCons (fC (.str "bad")) aNil))) (f2 gEq (fCall F_told_page (aCons (fC .non) aNil)) (fTup (aCons (fC (.str "bad")) aNil))))))))))))))
def F_law : List D → Mem → Res D := fnD N_law B_law
theorem body_law {f : Addr} {cdv : Value} {A : Around} {outer : List PySem.Env} {s : Shared} {H : Hp} {E : XK} {P0 c : Addr} (T : Txt w K mg) (hr : Room 7 (A.deeper (PyProof.Rows.envOfC "law" (defScope s_law) s.heap.objs.size f cdv)))
    (lc : LawClo (cxOf (L2.CX P w) P w K mg base N_law "law" (defScope s_law) f cdv A outer s H E) lamL P0) (TB : LamX.TabB base mg c P0) (hcode : cdv = .ref c) :
    PSs (cxOf (L2.CX P w) P w K mg base N_law "law" (defScope s_law) f cdv A outer s H E) (defBody s_law) (tS K mg (fun c d _ H => E c d H) B_law) :=
  (m_cons (m_set 1 sc_law.nd (m_lst (m_acons (m_var 0) (m_acons m_int (m_acons m_int (m_acons m_int m_anil))))))
    (m_cons (m_set 2 sc_law.nd (m_callTy call_tuple_of cs_tupOf T.b_tuple bt_tuple (m_acons (m_lc [("turn", 4)] rfl sc_law.nd (pi_range1 rfl T.b_range (m_acons (m_call (ok_law_pick T) (hr.mono (by decide)) tk_def (m_acons (m_var 1) (m_acons (m_lst (m_acons m_int (m_acons m_int (m_acons m_int (m_acons m_int (m_acons m_int (m_acons m_int m_anil))))))) m_anil)) (alenS (alenS alen0))) m_anil)) (wi_rng1 alen1) (blkOk_by (own := [("turn", 4)]) (N := N_law) (sc := defScope s_law) (by decide +kernel)) (tg_name 4) (tw_name (by decide)) (fun _ _ _ _ _ => (pg_name (i := 4) sc_law.nd rfl (Or.inl rfl))) (fun _ _ _ _ _ => m_noifs) (fun _ _ _ _ _ => (m_call (ok_law_pick T) (hr.mono (by decide)) takes0 (m_acons (m_var 1) (m_acons (m_lst (m_acons m_int (m_acons m_int (m_acons (m_call (ok_law_taken T) (hr.mono (by decide)) takes0 (m_acons (m_var 1) (m_acons m_int m_anil)) (alenS (alenS alen0))) m_anil)))) m_anil)) (alenS (alenS alen0))))) m_anil)))
    (m_cons (m_set 3 sc_law.nd (m_call (ok_with_check T) (hr.mono (by decide)) tk_def (m_acons (m_var 2) m_anil) (alenS alen0)))
    (m_cons (m_for po_def rfl (pi_range1 rfl T.b_range (m_acons m_int m_anil)) (wi_rng1 alen1) (pg_name (i := 4) sc_law.nd rfl (Or.inl rfl)) (tg_name 4) (m_cons (m_set 5 sc_law.nd (m_call (ok_law_changed T) (hr.mono (by decide)) tk_def (m_acons (m_var 1) (m_acons (m_var 3) (m_acons (m_callB call_len cs_len T.b_len bt_len (m_acons (m_var 3) m_anil)) m_anil))) (alenS (alenS (alenS alen0)))))
    (m_one (m_if (m_cmpT op_notN os_notN (nomark _) (m_call (ok_without_check T) (hr.mono (by decide)) tk_def (m_acons (m_var 5) m_anil) (alenS alen0)) m_non) (m_one (m_ret m_bl)) m_nil))))
    (m_cons (m_set 6 sc_law.nd (m_op op_mul2 os_mul2 m_str m_int))
    (m_cons (m_set 7 sc_law.nd (m_lst (m_acons (m_tup (m_acons m_str m_anil)) (m_acons (m_tup (m_acons m_str (m_acons m_int (m_acons m_int (m_acons m_int (m_acons m_int m_anil)))))) (m_acons (m_tup (m_acons m_str (m_acons m_int (m_acons m_int (m_acons m_int (m_acons (m_slice (m_var 6) m_onone (m_osome (m_op op_addA os_add m_int (m_call (ok_law_taken T) (hr.mono (by decide)) tk_def (m_acons (m_var 1) (m_acons m_int m_anil)) (alenS (alenS alen0)))))) m_anil)))))) m_anil)))))
    (m_cons (m_set 7 sc_law.nd (m_op op_addA os_add (m_var 7) (m_lst (m_acons (m_tup (m_acons m_str (m_acons m_int (m_acons m_int (m_acons m_int (m_acons (m_callTy call_tuple_of cs_tupOf T.b_tuple bt_tuple (m_acons (m_lc [("turn", 4)] rfl sc_law.nd (pi_range1 rfl T.b_range (m_acons m_int m_anil)) (wi_rng1 alen1) (blkOk_by (own := [("turn", 4)]) (N := N_law) (sc := defScope s_law) (by decide +kernel)) (tg_name 4) (tw_name (by decide)) (fun _ _ _ _ _ => (pg_name (i := 4) sc_law.nd rfl (Or.inl rfl))) (fun _ _ _ _ _ => m_noifs) (fun _ _ _ _ _ => (m_call (ok_law_taken T) (hr.mono (by decide)) takes0 (m_acons (m_var 1) (m_acons m_int m_anil)) (alenS (alenS alen0))))) m_anil)) m_anil)))))) m_anil))))
    (m_cons (m_set 8 sc_law.nd (m_call (ok_written_page T) (hr.mono (by decide)) tk_def (m_acons (m_call (ok_law_pick T) (hr.mono (by decide)) tk_def (m_acons (m_var 1) (m_acons (m_var 7) m_anil)) (alenS (alenS alen0))) m_anil) (alenS alen0)))
    (m_cons (m_for po_def rfl (pi_range1 rfl T.b_range (m_acons m_int m_anil)) (wi_rng1 alen1) (pg_name (i := 4) sc_law.nd rfl (Or.inl rfl)) (tg_name 4) (m_one (m_if (m_cmpT (op_neD hr.units) os_ne (nomark _) (m_call (ok_told_page T) (hr.mono (by decide)) tk_def (m_acons (m_call (ok_law_changed T) (hr.mono (by decide)) tk_def (m_acons (m_var 1) (m_acons (m_var 8) (m_acons m_int m_anil))) (alenS (alenS (alenS alen0)))) m_anil) (alenS alen0)) (m_tup (m_acons m_str m_anil))) (m_one (m_ret m_bl)) m_nil)))
    (m_one (m_ret (m_vand (m_cmp (op_neD hr.units) os_ne (nomark _) (m_call (ok_told_page T) (hr.mono (by decide)) tk_def (m_acons (m_var 8) m_anil) (alenS alen0)) (m_tup (m_acons m_str m_anil))) (m_vone (m_cmp (op_eqD hr.units) os_eq (nomark _) (m_call (ok_told_page T) (hr.mono (by decide)) tk_def (m_acons m_non m_anil) (alenS alen0)) (m_tup (m_acons m_str m_anil))))))))))))))))
end
end K06
end
section
set_option Elab.async false
set_option linter.all false
set_option maxRecDepth 100000
set_option maxHeartbeats 4000000
open PySem L2 Mn Pk Pm
namespace K06
section
variable {ns : List Int} {o : Mn.Obj} {r : Mem} {ρ : Mn.Env} {m : Mem}
theorem ex_seq {S T : Mn.Env → Mem → Out} {ρ1 : Mn.Env} {m1 : Mem} {d : D} (h1 : S ρ m = .nx ρ1 m1) (h2 : ∃ m', T ρ1 m1 = .rt d m') : ∃ m', sSeq S T ρ m = .rt d m' := by
  obtain ⟨m', h⟩ := h2
  exact ⟨m', ev_seq h1 h⟩
theorem has_app {j : Nat} {x : Mn.Obj} {g : Mem} (h : r[j]? = some x) : (r ++ g)[j]? = some x := by
  rw [List.getElem?_append_left (List.getElem?_eq_some_iff.mp h).1]
  exact h
/-- a comprehension of draws -/
theorem draw_comp {V : D → Prop} {k : Nat} {t : D → Mn.Env → Option Mn.Env} {te : Mn.Env → Mem → Res D} {f : Mn.Env → Mem → Res Src} {ds : List D} {o1 : Mn.Obj} {r1 : Mem}
    (h : f ρ (o :: r) = .ok (ds, fun _ => true) (o1 :: r1)) (ho : IsRow ns o1) (hl : ds.length ≤ 100000)
    (ht : ∀ d ∈ ds, ∃ ρ1, t d (wipeE ρ [k]) = some ρ1 ∧ ∀ (o : Mn.Obj) (r' : Mem), IsRow ns o → (∃ x, r' = r1 ++ x) → ∃ x o' g', te ρ1 (o :: r') = .ok x (o' :: (r' ++ g')) ∧ IsRow ns o' ∧ V x) :
    ∃ xs o' g, fComp [k] f t ftYes te ρ (o :: r) = .ok (.ref (r1.length + 1)) (o' :: (r1 ++ .lst xs :: g)) ∧ IsRow ns o' ∧ xs.length = ds.length ∧ ∀ x ∈ xs, V x := by
  obtain ⟨xs, o', g, e, h1, h2, h3⟩ := comp_draw (ρ := wipeE ρ [k]) (V := V) (te := te) ds o1 [] [] ho (by simpa using Nat.le_trans hl (by decide)) (fun x hx => by cases hx) ht
  refine ⟨xs, o', g, comp_eq h ?_, h1, by simpa using h2, h3⟩
  exact e
def ByteD (x : D) : Prop := ∃ b : Int, x = .int b ∧ 0 ≤ b ∧ b ≤ 255
theorem byte_list : ∀ {xs : List D}, (∀ x ∈ xs, ByteD x) → ∃ bs : List Int, xs = bs.map D.int ∧ ByteL bs
  | [], _ => ⟨[], rfl, fun b h => by cases h⟩
  | x :: xs, h => by
    obtain ⟨b, rfl, hb⟩ := h x List.mem_cons_self
    obtain ⟨bs, e, hbs⟩ := byte_list (xs := xs) fun y hy => h y (List.mem_cons_of_mem _ hy)
    refine ⟨b :: bs, by rw [e]; rfl, fun c hc => ?_⟩
    rcases List.mem_cons.mp hc with hc | hc
    · rw [hc]; exact hb
    · exact hbs c hc
/-- a loop of draws, which keeps what is known of the environment -/
theorem loop_draw {P : Mn.Env → Prop} {t : D → Mn.Env → Option Mn.Env} {body : Mn.Env → Mem → Out} (hb : ∀ (d : D) (ρ : Mn.Env) (o : Mn.Obj) (r : Mem), P ρ → IsRow ns o → ∃ ρ1 ρ2 o' g, t d ρ = some ρ1 ∧ body ρ1 (o :: r) = .nx ρ2 (o' :: (r ++ g)) ∧ P ρ2 ∧ IsRow ns o') :
    ∀ (ds : List D) (ρ : Mn.Env) (o : Mn.Obj) (r : Mem), P ρ → IsRow ns o → ∃ ρ2 o' g, loopD (fun _ => true) t body ds ρ (o :: r) = .nx ρ2 (o' :: (r ++ g)) ∧ P ρ2 ∧ IsRow ns o'
  | [], ρ, o, r, hp, ho => ⟨ρ, o, [], by simp only [loopD, if_true, List.append_nil], hp, ho⟩
  | d :: ds, ρ, o, r, hp, ho => by
    obtain ⟨ρ1, ρ2, o', g, h1, h2, h3, h4⟩ := hb d ρ o r hp ho
    obtain ⟨ρ3, o3, g3, e, h5, h6⟩ := loop_draw hb ds ρ2 o' (r ++ g) h3 h4
    exact ⟨ρ3, o3, g ++ g3, by simp only [loopD, if_true, h1, h2, e, List.append_assoc], h5, h6⟩
/-! ### the statements -/
abbrev long2 : Mn.Env → Mem → Res D := (fCall gTupOf (aCons (fComp [4] (fRng (aCons (fCall F_law_pick (aCons (fVar 1) (aCons (fLst (aCons (fC (.int 0)) (aCons (fC (.int 1)) (aCons (fC (.int 2)) (aCons (fC (.int 60)) (aCons (fC (.int 249)) (aCons (fC (.int 250)) aNil))))))) aNil))) aNil)) (gN 4) ftYes (fCall F_law_pick (aCons (fVar 1) (aCons (fLst (aCons (fC (.int 0)) (aCons (fC (.int 255)) (aCons (fCall F_law_taken (aCons (fVar 1) (aCons (fC (.int 256)) aNil))) aNil)))) aNil)))) aNil))
theorem run2 (ho : IsRow ns o) (h1 : ρ[1]? = some (some (.ref 0))) : ∃ bs o' g, long2 ρ (o :: r) = .ok (byD bs) (o' :: (r ++ g)) ∧ IsRow ns o' ∧ ByteL bs ∧ bs.length ≤ 250 := by
  obtain ⟨d, o1, e1, ho1, hd⟩ := pickN' (r := r) ho (ds := [.int 0, .int 1, .int 2, .int 60, .int 249, .int 250]) (by decide) (by decide)
  have q : ∃ k : Int, d = .int k ∧ 0 ≤ k ∧ k ≤ 250 := by
    simp only [List.mem_cons, List.not_mem_nil, or_false] at hd
    rcases hd with rfl | rfl | rfl | rfl | rfl | rfl <;> exact ⟨_, rfl, by decide, by decide⟩
  obtain ⟨k, rfl, k0, k1⟩ := q
  have hs : fRng (aCons (fCall F_law_pick (aCons (fVar 1) (aCons (fLst (aCons (fC (.int 0)) (aCons (fC (.int 1)) (aCons (fC (.int 2)) (aCons (fC (.int 60)) (aCons (fC (.int 249)) (aCons (fC (.int 250)) aNil))))))) aNil))) aNil) ρ (o :: r) = .ok (rangeD 0 k, fun _ => true) (o1 :: (r ++ [.lst [.int 0, .int 1, .int 2, .int 60, .int 249, .int 250]])) :=
    rng_run (by simp only [fnD, startE, List.map_cons, List.map_nil, List.length_cons, List.length_nil, List.replicate, List.cons_append, List.nil_append, Nat.reduceAdd, Nat.reduceSub, Nat.zero_add, sSeq, sIf, sSet, sRet, sRetN, sPass, sExpr, sRaise, sBrk, sCnt, bd_ok, bd_ex, bd_bad, rs_ok, rs_ex, rs_bad, nx_ok, fVar, fC, f2, fCall, aCons, aNil, vAnd, vOr, vNot, fAnd, fOr, fNot, fTru, tr_non, tr_bl, tr_int, tr_tup, tr_rol, fBl, bl_b, fIf, fIsi, gIsi, isiB, ty_non, ty_bl, ty_int, ty_str, ty_tup, ty_rol, fChain, lf_gtI, lf_ltI, lf_leI, lf_geI, addI, subI, List.getElem?_cons_zero, List.getElem?_cons_succ, List.set_cons_zero, List.set_cons_succ, fTup, fLst, tup0, lst0, tup1, lst1, tup2, lst2, tup3, lst3, tup4, lst4, tup5, lst5, tup6, lst6, tup7, lst7, tup8, lst8, tup9, lst9, tup10, lst10, tup11, lst11, tup12, lst12, fNeg, oSome, oNone, Bool.not_true, Bool.not_false, Bool.false_eq_true, if_true, if_false, ite_true, ite_false, lf_int, lf_lenT, lf_lenO, lf_truB, fM1, sSetIx2, sPar, sPar3, kb_NoneType_int, kb_NoneType_str, kb_NoneType_bool, kb_NoneType_tuple, kb_NoneType_list, kb_NoneType_dict, kb_bool_int, kb_bool_str, kb_bool_bool, kb_bool_tuple, kb_bool_list, kb_bool_dict, kb_int_int, kb_int_str, kb_int_bool, kb_int_tuple, kb_int_list, kb_int_dict, kb_str_int, kb_str_str, kb_str_bool, kb_str_tuple, kb_str_list, kb_str_dict, kb_tuple_int, kb_tuple_str, kb_tuple_bool, kb_tuple_tuple, kb_tuple_list, kb_tuple_dict, kb_list_int, kb_list_str, kb_list_bool, kb_list_tuple, kb_list_list, kb_list_dict, kb_dict_int, kb_dict_str, kb_dict_bool, kb_dict_tuple, kb_dict_list, kb_dict_dict, h1, e1]) (by omega) (by omega)
  obtain ⟨xs, o', g, e, ho', hl, hv⟩ := draw_comp (V := ByteD) (k := 4) (t := gN 4) (te := fCall F_law_pick (aCons (fVar 1) (aCons (fLst (aCons (fC (.int 0)) (aCons (fC (.int 255)) (aCons (fCall F_law_taken (aCons (fVar 1) (aCons (fC (.int 256)) aNil))) aNil)))) aNil))) hs ho1 (by rw [rng_len]; omega) fun d hd => by
    refine ⟨_, rfl, fun o r' ho hx => ?_⟩
    obtain ⟨v, o1, e1, ho1, v0, v1⟩ := taken (r := r') ho 256 (by decide) (by decide)
    obtain ⟨d2, o2, e2, ho2, hd2⟩ := pickN' (r := r') ho1 (ds := [.int 0, .int 255, .int v]) (by show 0 < 3; decide) (by show 3 ≤ 100000; decide)
    refine ⟨d2, o2, [.lst [.int 0, .int 255, .int v]], ?_, ho2, ?_⟩
    · have g1 : ((wipeE ρ [4]).set 4 (some d))[1]? = some (some (.ref 0)) := by simp only [wipeE]; rw [List.getElem?_set_ne (by decide), List.getElem?_set_ne (by decide)]; exact h1
      simp only [fnD, startE, List.map_cons, List.map_nil, List.length_cons, List.length_nil, List.replicate, List.cons_append, List.nil_append, Nat.reduceAdd, Nat.reduceSub, Nat.zero_add, sSeq, sIf, sSet, sRet, sRetN, sPass, sExpr, sRaise, sBrk, sCnt, bd_ok, bd_ex, bd_bad, rs_ok, rs_ex, rs_bad, nx_ok, fVar, fC, f2, fCall, aCons, aNil, vAnd, vOr, vNot, fAnd, fOr, fNot, fTru, tr_non, tr_bl, tr_int, tr_tup, tr_rol, fBl, bl_b, fIf, fIsi, gIsi, isiB, ty_non, ty_bl, ty_int, ty_str, ty_tup, ty_rol, fChain, lf_gtI, lf_ltI, lf_leI, lf_geI, addI, subI, List.getElem?_cons_zero, List.getElem?_cons_succ, List.set_cons_zero, List.set_cons_succ, fTup, fLst, tup0, lst0, tup1, lst1, tup2, lst2, tup3, lst3, tup4, lst4, tup5, lst5, tup6, lst6, tup7, lst7, tup8, lst8, tup9, lst9, tup10, lst10, tup11, lst11, tup12, lst12, fNeg, oSome, oNone, Bool.not_true, Bool.not_false, Bool.false_eq_true, if_true, if_false, ite_true, ite_false, lf_int, lf_lenT, lf_lenO, lf_truB, fM1, sSetIx2, sPar, sPar3, kb_NoneType_int, kb_NoneType_str, kb_NoneType_bool, kb_NoneType_tuple, kb_NoneType_list, kb_NoneType_dict, kb_bool_int, kb_bool_str, kb_bool_bool, kb_bool_tuple, kb_bool_list, kb_bool_dict, kb_int_int, kb_int_str, kb_int_bool, kb_int_tuple, kb_int_list, kb_int_dict, kb_str_int, kb_str_str, kb_str_bool, kb_str_tuple, kb_str_list, kb_str_dict, kb_tuple_int, kb_tuple_str, kb_tuple_bool, kb_tuple_tuple, kb_tuple_list, kb_tuple_dict, kb_list_int, kb_list_str, kb_list_bool, kb_list_tuple, kb_list_list, kb_list_dict, kb_dict_int, kb_dict_str, kb_dict_bool, kb_dict_tuple, kb_dict_list, kb_dict_dict, g1, e1, e2]
    · simp only [List.mem_cons, List.not_mem_nil, or_false] at hd2
      rcases hd2 with rfl | rfl | rfl
      · exact ⟨0, rfl, by decide, by decide⟩
      · exact ⟨255, rfl, by decide, by decide⟩
      · exact ⟨v, rfl, v0, by omega⟩
  obtain ⟨bs, rfl, hb⟩ := byte_list hv
  rw [List.length_map, rng_len] at hl
  refine ⟨bs, o', [.lst [.int 0, .int 1, .int 2, .int 60, .int 249, .int 250]] ++ .lst (bs.map D.int) :: g, ?_, ho', hb, by omega⟩
  have t : gTupOf [.ref ((r ++ [Mn.Obj.lst [.int 0, .int 1, .int 2, .int 60, .int 249, .int 250]]).length + 1)] (o' :: (r ++ [.lst [.int 0, .int 1, .int 2, .int 60, .int 249, .int 250]] ++ .lst (bs.map D.int) :: g)) = .ok (byD bs) (o' :: (r ++ [.lst [.int 0, .int 1, .int 2, .int 60, .int 249, .int 250]] ++ .lst (bs.map D.int) :: g)) := tup_ref (by rw [List.getElem?_cons_succ]; simp)
  simp only [long2, fCall, aCons, aNil, e, bd_ok]
  rw [← List.append_assoc]
  exact t
section
variable {x0 x2 x3 x4 x5 x6 x7 x8 : Option D}
theorem bad_bad {m : Mem} : gNe badD badD m = .ok (.bl false) m := by
  have hb : SeqAt.shaped (.tuple [.str "bad"]) = true := by decide +kernel
  unfold gNe
  simp only [pyM, pyD, pyL, hb, Bool.and_self, if_true, PyData.eqv, PyData.eqvAll]
  simp
theorem rng12 : fRng (aCons (fC (.int 12)) aNil) ρ m = .ok (rangeD 0 12, fun _ => true) m := rng_run rfl (by decide) (by decide)
abbrev for4 : Mn.Env → Mem → Out := (sFor (fRng (aCons (fC (.int 12)) aNil)) (gN 4) (sSeq (sSet 5 (fCall F_law_changed (aCons (fVar 1) (aCons (fVar 3) (aCons (fCall gLen (aCons (fVar 3) aNil)) aNil)))))     (sIf (fBl (f2 gNotN (fCall F_without_check (aCons (fVar 5) aNil)) (fC .non))) (sRet (fC (.bl false))) sPass)))
theorem run4 {a : List Int} (ho : IsRow ns o) (ha : ByteL a) (hl : a.length ≤ 250) :
    ∃ y4 y5 o' g, for4 [x0, some (.ref 0), x2, some (byD (wchk a)), x4, x5, x6, x7, x8] (o :: r) = .nx [x0, some (.ref 0), x2, some (byD (wchk a)), y4, y5, x6, x7, x8] (o' :: (r ++ g)) ∧ IsRow ns o' := by
  obtain ⟨ρ2, o', g, e, ⟨y4, y5, rfl⟩, h⟩ := loop_draw (ns := ns) (P := fun ρ => ∃ y4 y5, ρ = [x0, some (.ref 0), x2, some (byD (wchk a)), y4, y5, x6, x7, x8]) (t := gN 4) (body := (sSeq (sSet 5 (fCall F_law_changed (aCons (fVar 1) (aCons (fVar 3) (aCons (fCall gLen (aCons (fVar 3) aNil)) aNil)))))     (sIf (fBl (f2 gNotN (fCall F_without_check (aCons (fVar 5) aNil)) (fC .non))) (sRet (fC (.bl false))) sPass))) (by
    rintro d ρ o r ⟨y4, y5, rfl⟩ ho
    obtain ⟨w', o1, g1, e1, ho1, hc⟩ := changed (r := r) (many := ((wchk a).length : Int)) ho (wchk_byte ha) (by rw [wchk_len]; omega) (by rw [wchk_len]; omega) rfl
    obtain ⟨g2, e2⟩ := without_check (m := o1 :: (r ++ g1)) (hc.byte (wchk_byte ha)) (by rw [hc.len, wchk_len]; omega) (by rw [hc.len, wchk_len]; omega)
    rw [hc.unchk ha hl] at e2
    have e2' : F_without_check [byD w'] (o1 :: (r ++ g1)) = .ok .non (o1 :: (r ++ g1) ++ g2) := e2
    have nn : ∀ m, gNotN .non .non m = .ok (.bl false) m := fun m => rfl
    have l := len_by (m := o :: r) (bs := wchk a)
    refine ⟨_, [x0, some (.ref 0), x2, some (byD (wchk a)), some d, some (byD w'), x6, x7, x8], o1, g1 ++ g2, rfl, ?_, ⟨_, _, rfl⟩, ho1⟩
    generalize wchk a = W at e1 l ⊢
    simp only [byD] at e1 e2' l ⊢
    simp only [fnD, startE, List.map_cons, List.map_nil, List.length_cons, List.length_nil, List.replicate, List.cons_append, List.nil_append, Nat.reduceAdd, Nat.reduceSub, Nat.zero_add, sSeq, sIf, sSet, sRet, sRetN, sPass, sExpr, sRaise, sBrk, sCnt, bd_ok, bd_ex, bd_bad, rs_ok, rs_ex, rs_bad, nx_ok, fVar, fC, f2, fCall, aCons, aNil, vAnd, vOr, vNot, fAnd, fOr, fNot, fTru, tr_non, tr_bl, tr_int, tr_tup, tr_rol, fBl, bl_b, fIf, fIsi, gIsi, isiB, ty_non, ty_bl, ty_int, ty_str, ty_tup, ty_rol, fChain, lf_gtI, lf_ltI, lf_leI, lf_geI, addI, subI, List.getElem?_cons_zero, List.getElem?_cons_succ, List.set_cons_zero, List.set_cons_succ, fTup, fLst, tup0, lst0, tup1, lst1, tup2, lst2, tup3, lst3, tup4, lst4, tup5, lst5, tup6, lst6, tup7, lst7, tup8, lst8, tup9, lst9, tup10, lst10, tup11, lst11, tup12, lst12, fNeg, oSome, oNone, Bool.not_true, Bool.not_false, Bool.false_eq_true, if_true, if_false, ite_true, ite_false, lf_int, lf_lenT, lf_lenO, lf_truB, fM1, sSetIx2, sPar, sPar3, kb_NoneType_int, kb_NoneType_str, kb_NoneType_bool, kb_NoneType_tuple, kb_NoneType_list, kb_NoneType_dict, kb_bool_int, kb_bool_str, kb_bool_bool, kb_bool_tuple, kb_bool_list, kb_bool_dict, kb_int_int, kb_int_str, kb_int_bool, kb_int_tuple, kb_int_list, kb_int_dict, kb_str_int, kb_str_str, kb_str_bool, kb_str_tuple, kb_str_list, kb_str_dict, kb_tuple_int, kb_tuple_str, kb_tuple_bool, kb_tuple_tuple, kb_tuple_list, kb_tuple_dict, kb_list_int, kb_list_str, kb_list_bool, kb_list_tuple, kb_list_list, kb_list_dict, kb_dict_int, kb_dict_str, kb_dict_bool, kb_dict_tuple, kb_dict_list, kb_dict_dict, List.length_map, l, e1, e2', nn]
    simp only [List.append_assoc]) (rangeD 0 12) _ o r ⟨x4, x5, rfl⟩ ho
  exact ⟨y4, y5, o', g, for_run rng12 e, h⟩
abbrev for8 : Mn.Env → Mem → Out := (sFor (fRng (aCons (fC (.int 12)) aNil)) (gN 4) (sIf (fBl (f2 gNe (fCall F_told_page (aCons (fCall F_law_changed (aCons (fVar 1) (aCons (fVar 8) (aCons (fC (.int 64)) aNil)))) aNil)) (fTup (aCons (fC (.str "bad")) aNil)))) (sRet (fC (.bl false))) sPass))
theorem run8 {os : List Int} (ho : IsRow ns o) (hb : ByteL os) (hl : os.length ≤ 60) :
    ∃ y4 o' g, for8 [x0, some (.ref 0), x2, x3, x4, x5, x6, x7, some (byD (pageOf os))] (o :: r) = .nx [x0, some (.ref 0), x2, x3, y4, x5, x6, x7, some (byD (pageOf os))] (o' :: (r ++ g)) ∧ IsRow ns o' := by
  obtain ⟨ρ2, o', g, e, ⟨y4, rfl⟩, h⟩ := loop_draw (ns := ns) (P := fun ρ => ∃ y4, ρ = [x0, some (.ref 0), x2, x3, y4, x5, x6, x7, some (byD (pageOf os))]) (t := gN 4) (body := (sIf (fBl (f2 gNe (fCall F_told_page (aCons (fCall F_law_changed (aCons (fVar 1) (aCons (fVar 8) (aCons (fC (.int 64)) aNil)))) aNil)) (fTup (aCons (fC (.str "bad")) aNil)))) (sRet (fC (.bl false))) sPass)) (by
    rintro d ρ o r ⟨y4, rfl⟩ ho
    obtain ⟨w', o1, g1, e1, ho1, hc⟩ := changed (r := r) (many := 64) ho (page_byte hb) (by decide) (by decide) (by rw [page_len hl]; rfl)
    obtain ⟨g2, e2⟩ := told_changed (m := o1 :: (r ++ g1)) hb hl hc
    have nn : ∀ m, gNe badD badD m = .ok (.bl false) m := fun m => bad_bad
    refine ⟨_, [x0, some (.ref 0), x2, x3, some d, x5, x6, x7, some (byD (pageOf os))], o1, g1 ++ g2, rfl, ?_, ⟨_, rfl⟩, ho1⟩
    generalize pageOf os = W at e1 ⊢
    simp only [byD] at e1 e2 ⊢
    simp only [fnD, startE, List.map_cons, List.map_nil, List.length_cons, List.length_nil, List.replicate, List.cons_append, List.nil_append, Nat.reduceAdd, Nat.reduceSub, Nat.zero_add, sSeq, sIf, sSet, sRet, sRetN, sPass, sExpr, sRaise, sBrk, sCnt, bd_ok, bd_ex, bd_bad, rs_ok, rs_ex, rs_bad, nx_ok, fVar, fC, f2, fCall, aCons, aNil, vAnd, vOr, vNot, fAnd, fOr, fNot, fTru, tr_non, tr_bl, tr_int, tr_tup, tr_rol, fBl, bl_b, fIf, fIsi, gIsi, isiB, ty_non, ty_bl, ty_int, ty_str, ty_tup, ty_rol, fChain, lf_gtI, lf_ltI, lf_leI, lf_geI, addI, subI, List.getElem?_cons_zero, List.getElem?_cons_succ, List.set_cons_zero, List.set_cons_succ, fTup, fLst, tup0, lst0, tup1, lst1, tup2, lst2, tup3, lst3, tup4, lst4, tup5, lst5, tup6, lst6, tup7, lst7, tup8, lst8, tup9, lst9, tup10, lst10, tup11, lst11, tup12, lst12, fNeg, oSome, oNone, Bool.not_true, Bool.not_false, Bool.false_eq_true, if_true, if_false, ite_true, ite_false, lf_int, lf_lenT, lf_lenO, lf_truB, fM1, sSetIx2, sPar, sPar3, kb_NoneType_int, kb_NoneType_str, kb_NoneType_bool, kb_NoneType_tuple, kb_NoneType_list, kb_NoneType_dict, kb_bool_int, kb_bool_str, kb_bool_bool, kb_bool_tuple, kb_bool_list, kb_bool_dict, kb_int_int, kb_int_str, kb_int_bool, kb_int_tuple, kb_int_list, kb_int_dict, kb_str_int, kb_str_str, kb_str_bool, kb_str_tuple, kb_str_list, kb_str_dict, kb_tuple_int, kb_tuple_str, kb_tuple_bool, kb_tuple_tuple, kb_tuple_list, kb_tuple_dict, kb_list_int, kb_list_str, kb_list_bool, kb_list_tuple, kb_list_list, kb_list_dict, kb_dict_int, kb_dict_str, kb_dict_bool, kb_dict_tuple, kb_dict_list, kb_dict_dict, e1, e2, nn]
    simp only [List.append_assoc]) (rangeD 0 12) _ o r ⟨x4, rfl⟩ ho
  exact ⟨y4, o', g, for_run rng12 e, h⟩
theorem cut_len {s : Str} {k : Int} (h0 : 0 ≤ k) (h : k ≤ (s.length : Int)) : ((cutS s none (some k)).length : Int) = k := by
  obtain ⟨n, rfl⟩ := Int.eq_ofNat_of_zero_le h0
  have a : (cutS s none (some (n : Int))).length = n := by
    show (((s.cps.toList.drop (HT.sIx s.length 0 none)).take (HT.sIx s.length s.length (some (n : Int)) - HT.sIx s.length 0 none)).toArray).size = n
    rw [List.size_toArray, List.length_take, List.length_drop, Array.length_toList, HT.sIx_nat]
    have b : HT.sIx s.length 0 none = 0 := rfl
    have c : s.cps.size = s.length := rfl
    rw [b, c]
    omega
  rw [a]
abbrev TD (s : Str) : List D := [.tup [.str "blank"], headD 7 3 9 12, dataD 2 70000 3 s]
abbrev tolds5 : Mn.Env → Mem → Res D := (fLst (aCons (fTup (aCons (fC (.str "blank")) aNil)) (aCons (fTup (aCons (fC (.str "head")) (aCons (fC (.int 7)) (aCons (fC (.int 3)) (aCons (fC (.int 9)) (aCons (fC (.int 12)) aNil)))))) (aCons (fTup (aCons (fC (.str "data")) (aCons (fC (.int 2)) (aCons (fC (.int 70000)) (aCons (fC (.int 3)) (aCons (fSl (fVar 6) oNone (oSome (f2 gAdd (fC (.int 1)) (fCall F_law_taken (aCons (fVar 1) (aCons (fC (.int 50)) aNil)))))) aNil)))))) aNil))))
theorem run5 {S : Str} (ho : IsRow ns o) (hs : Signs S) (hl : S.length = 50) :
    ∃ s o', tolds5 [x0, some (.ref 0), x2, x3, x4, x5, some (.str S), x7, x8] (o :: r) = .ok (.ref (r.length + 1)) (o' :: (r ++ [.lst (TD s)])) ∧ IsRow ns o' ∧ Signs s ∧ 1 ≤ s.length ∧ s.length ≤ 50 := by
  obtain ⟨v, o1, e1, ho1, v0, v1⟩ := taken (r := r) ho 50 (by decide) (by decide)
  have c := cut_len (s := S) (k := 1 + v) (by omega) (by rw [hl]; omega)
  have sl : gSl (.str S) none (some (1 + v)) (o1 :: r) = .ok (.str (cutS S none (some (1 + v)))) (o1 :: r) := lf_slS (by omega)
  refine ⟨cutS S none (some (1 + v)), o1, ?_, ho1, fun c hc => hs c (cut_mem hc), by omega, by omega⟩
  generalize cutS S none (some (1 + v)) = s at sl ⊢
  have z : (o1 :: r).length = r.length + 1 := rfl
  unfold tolds5
  simp only [fnD, startE, List.map_cons, List.map_nil, List.length_cons, List.length_nil, List.replicate, List.cons_append, List.nil_append, Nat.reduceAdd, Nat.reduceSub, Nat.zero_add, sSeq, sIf, sSet, sRet, sRetN, sPass, sExpr, sRaise, sBrk, sCnt, bd_ok, bd_ex, bd_bad, rs_ok, rs_ex, rs_bad, nx_ok, fVar, fC, f2, fCall, aCons, aNil, vAnd, vOr, vNot, fAnd, fOr, fNot, fTru, tr_non, tr_bl, tr_int, tr_tup, tr_rol, fBl, bl_b, fIf, fIsi, gIsi, isiB, ty_non, ty_bl, ty_int, ty_str, ty_tup, ty_rol, fChain, lf_gtI, lf_ltI, lf_leI, lf_geI, addI, subI, List.getElem?_cons_zero, List.getElem?_cons_succ, List.set_cons_zero, List.set_cons_succ, fTup, fLst, tup0, lst0, tup1, lst1, tup2, lst2, tup3, lst3, tup4, lst4, tup5, lst5, tup6, lst6, tup7, lst7, tup8, lst8, tup9, lst9, tup10, lst10, tup11, lst11, tup12, lst12, fNeg, oSome, oNone, Bool.not_true, Bool.not_false, Bool.false_eq_true, if_true, if_false, ite_true, ite_false, lf_int, lf_lenT, lf_lenO, lf_truB, fM1, sSetIx2, sPar, sPar3, kb_NoneType_int, kb_NoneType_str, kb_NoneType_bool, kb_NoneType_tuple, kb_NoneType_list, kb_NoneType_dict, kb_bool_int, kb_bool_str, kb_bool_bool, kb_bool_tuple, kb_bool_list, kb_bool_dict, kb_int_int, kb_int_str, kb_int_bool, kb_int_tuple, kb_int_list, kb_int_dict, kb_str_int, kb_str_str, kb_str_bool, kb_str_tuple, kb_str_list, kb_str_dict, kb_tuple_int, kb_tuple_str, kb_tuple_bool, kb_tuple_tuple, kb_tuple_list, kb_tuple_dict, kb_list_int, kb_list_str, kb_list_bool, kb_list_tuple, kb_list_list, kb_list_dict, kb_dict_int, kb_dict_str, kb_dict_bool, kb_dict_tuple, kb_dict_list, kb_dict_dict, fSl, e1, sl]
abbrev tolds6 : Mn.Env → Mem → Res D := (f2 gAdd (fVar 7) (fLst (aCons (fTup (aCons (fC (.str "tail")) (aCons (fC (.int 1)) (aCons (fC (.int 5)) (aCons (fC (.int 0)) (aCons (fCall gTupOf (aCons (fComp [4] (fRng (aCons (fC (.int 54)) aNil)) (gN 4) ftYes (fCall F_law_taken (aCons (fVar 1) (aCons (fC (.int 256)) aNil)))) aNil)) aNil)))))) aNil)))
theorem run6 {j : Nat} {L : List D} (ho : IsRow ns o) (hj : r[j]? = some (.lst L)) (hL : L.length = 3) :
    ∃ xs o' g, tolds6 [x0, some (.ref 0), x2, x3, x4, x5, x6, some (.ref (j + 1)), x8] (o :: r) = .ok (.ref ((r ++ g).length + 1)) (o' :: (r ++ g ++ [.lst (L ++ [tailD 1 5 0 xs])])) ∧ IsRow ns o' ∧ ByteL xs ∧ xs.length = 54 := by
  have hs : fRng (aCons (fC (.int 54)) aNil) [x0, some (.ref 0), x2, x3, x4, x5, x6, some (.ref (j + 1)), x8] (o :: r) = .ok (rangeD 0 54, fun _ => true) (o :: r) := rng_run rfl (by decide) (by decide)
  obtain ⟨ys, o', g, e, ho', hl, hv⟩ := draw_comp (V := ByteD) (k := 4) (t := gN 4) (te := fCall F_law_taken (aCons (fVar 1) (aCons (fC (.int 256)) aNil))) hs ho (by rw [rng_len]; decide) fun d hd => by
    refine ⟨_, rfl, fun o r' ho hx => ?_⟩
    obtain ⟨v, o1, e1, ho1, v0, v1⟩ := taken (r := r') ho 256 (by decide) (by decide)
    refine ⟨.int v, o1, [], ?_, ho1, v, rfl, v0, by omega⟩
    simp only [fnD, startE, List.map_cons, List.map_nil, List.length_cons, List.length_nil, List.replicate, List.cons_append, List.nil_append, Nat.reduceAdd, Nat.reduceSub, Nat.zero_add, sSeq, sIf, sSet, sRet, sRetN, sPass, sExpr, sRaise, sBrk, sCnt, bd_ok, bd_ex, bd_bad, rs_ok, rs_ex, rs_bad, nx_ok, fVar, fC, f2, fCall, aCons, aNil, vAnd, vOr, vNot, fAnd, fOr, fNot, fTru, tr_non, tr_bl, tr_int, tr_tup, tr_rol, fBl, bl_b, fIf, fIsi, gIsi, isiB, ty_non, ty_bl, ty_int, ty_str, ty_tup, ty_rol, fChain, lf_gtI, lf_ltI, lf_leI, lf_geI, addI, subI, List.getElem?_cons_zero, List.getElem?_cons_succ, List.set_cons_zero, List.set_cons_succ, fTup, fLst, tup0, lst0, tup1, lst1, tup2, lst2, tup3, lst3, tup4, lst4, tup5, lst5, tup6, lst6, tup7, lst7, tup8, lst8, tup9, lst9, tup10, lst10, tup11, lst11, tup12, lst12, fNeg, oSome, oNone, Bool.not_true, Bool.not_false, Bool.false_eq_true, if_true, if_false, ite_true, ite_false, lf_int, lf_lenT, lf_lenO, lf_truB, fM1, sSetIx2, sPar, sPar3, kb_NoneType_int, kb_NoneType_str, kb_NoneType_bool, kb_NoneType_tuple, kb_NoneType_list, kb_NoneType_dict, kb_bool_int, kb_bool_str, kb_bool_bool, kb_bool_tuple, kb_bool_list, kb_bool_dict, kb_int_int, kb_int_str, kb_int_bool, kb_int_tuple, kb_int_list, kb_int_dict, kb_str_int, kb_str_str, kb_str_bool, kb_str_tuple, kb_str_list, kb_str_dict, kb_tuple_int, kb_tuple_str, kb_tuple_bool, kb_tuple_tuple, kb_tuple_list, kb_tuple_dict, kb_list_int, kb_list_str, kb_list_bool, kb_list_tuple, kb_list_list, kb_list_dict, kb_dict_int, kb_dict_str, kb_dict_bool, kb_dict_tuple, kb_dict_list, kb_dict_dict, wipeE, e1, List.append_nil]
  obtain ⟨xs, rfl, hb⟩ := byte_list hv
  rw [List.length_map, rng_len] at hl
  refine ⟨xs, o', .lst (xs.map D.int) :: g ++ [.lst [tailD 1 5 0 xs]], ?_, ho', hb, hl⟩
  have t : gTupOf [.ref (r.length + 1)] (o' :: (r ++ .lst (xs.map D.int) :: g)) = .ok (byD xs) (o' :: (r ++ .lst (xs.map D.int) :: g)) := tup_ref (by rw [List.getElem?_cons_succ]; simp)
  have ad := add_ref (m := o' :: (r ++ .lst (xs.map D.int) :: g ++ [.lst [tailD 1 5 0 xs]])) (a := j + 1) (b := (r ++ Mn.Obj.lst (xs.map D.int) :: g).length + 1) (xs := L) (ys := [tailD 1 5 0 xs]) (by rw [List.getElem?_cons_succ, List.append_assoc]; exact has_app hj) (by rw [List.getElem?_cons_succ]; exact getLast) (by rw [hL]; exact (show 3 + 1 ≤ 100000 by decide))
  have z : r ++ (.lst (xs.map D.int) :: g ++ [.lst [tailD 1 5 0 xs]]) = r ++ .lst (xs.map D.int) :: g ++ [.lst [tailD 1 5 0 xs]] := by simp
  rw [z]
  unfold tolds6
  generalize fComp _ _ _ _ _ = C at e ⊢
  generalize r ++ Mn.Obj.lst (xs.map D.int) :: g = R at e t ad ⊢
  simp only [tailD, byD] at t ad ⊢
  simp only [fnD, startE, List.map_cons, List.map_nil, List.length_cons, List.length_nil, List.replicate, List.cons_append, List.nil_append, Nat.reduceAdd, Nat.reduceSub, Nat.zero_add, sSeq, sIf, sSet, sRet, sRetN, sPass, sExpr, sRaise, sBrk, sCnt, bd_ok, bd_ex, bd_bad, rs_ok, rs_ex, rs_bad, nx_ok, fVar, fC, f2, fCall, aCons, aNil, vAnd, vOr, vNot, fAnd, fOr, fNot, fTru, tr_non, tr_bl, tr_int, tr_tup, tr_rol, fBl, bl_b, fIf, fIsi, gIsi, isiB, ty_non, ty_bl, ty_int, ty_str, ty_tup, ty_rol, fChain, lf_gtI, lf_ltI, lf_leI, lf_geI, addI, subI, List.getElem?_cons_zero, List.getElem?_cons_succ, List.set_cons_zero, List.set_cons_succ, fTup, fLst, tup0, lst0, tup1, lst1, tup2, lst2, tup3, lst3, tup4, lst4, tup5, lst5, tup6, lst6, tup7, lst7, tup8, lst8, tup9, lst9, tup10, lst10, tup11, lst11, tup12, lst12, fNeg, oSome, oNone, Bool.not_true, Bool.not_false, Bool.false_eq_true, if_true, if_false, ite_true, ite_false, lf_int, lf_lenT, lf_lenO, lf_truB, fM1, sSetIx2, sPar, sPar3, kb_NoneType_int, kb_NoneType_str, kb_NoneType_bool, kb_NoneType_tuple, kb_NoneType_list, kb_NoneType_dict, kb_bool_int, kb_bool_str, kb_bool_bool, kb_bool_tuple, kb_bool_list, kb_bool_dict, kb_int_int, kb_int_str, kb_int_bool, kb_int_tuple, kb_int_list, kb_int_dict, kb_str_int, kb_str_str, kb_str_bool, kb_str_tuple, kb_str_list, kb_str_dict, kb_tuple_int, kb_tuple_str, kb_tuple_bool, kb_tuple_tuple, kb_tuple_list, kb_tuple_dict, kb_list_int, kb_list_str, kb_list_bool, kb_list_tuple, kb_list_list, kb_list_dict, kb_dict_int, kb_dict_str, kb_dict_bool, kb_dict_tuple, kb_dict_list, kb_dict_dict, e, t, ad]
abbrev page7 : Mn.Env → Mem → Res D := (fCall F_written_page (aCons (fCall F_law_pick (aCons (fVar 1) (aCons (fVar 7) aNil))) aNil))
theorem run7 {j : Nat} {s : Str} {xs : List Int} (ho : IsRow ns o) (hj : r[j]? = some (.lst (TD s ++ [tailD 1 5 0 xs]))) (hs : Signs s) (l0 : 1 ≤ s.length) (hl : s.length ≤ 50) (hx : ByteL xs) (hxl : xs.length = 54) :
    ∃ t os o' g, page7 [x0, some (.ref 0), x2, x3, x4, x5, x6, some (.ref (j + 1)), x8] (o :: r) = .ok (byD (pageOf os)) (o' :: (r ++ g)) ∧ IsRow ns o' ∧ Told t os := by
  obtain ⟨d, o1, e1, ho1, hd⟩ := pick ho hj (by show 0 < 4; decide) (by show 4 ≤ 100000; decide)
  have q : ∃ os, Told d os := by
    simp only [TD, List.cons_append, List.nil_append, List.mem_cons, List.not_mem_nil, or_false] at hd
    rcases hd with rfl | rfl | rfl | rfl
    · exact ⟨_, told_blank⟩
    · exact ⟨_, told_head (by decide) (by decide) (by decide) (by decide)⟩
    · exact ⟨_, told_data (by decide) (by decide) (by decide) hs l0 hl⟩
    · exact ⟨_, told_tail (by decide) (by decide) (by decide) hx hxl⟩
  obtain ⟨os, T⟩ := q
  obtain ⟨g, e⟩ := written (m := o1 :: r) T
  refine ⟨d, os, o1, g, ?_, ho1, T⟩
  unfold page7
  simp only [fnD, startE, List.map_cons, List.map_nil, List.length_cons, List.length_nil, List.replicate, List.cons_append, List.nil_append, Nat.reduceAdd, Nat.reduceSub, Nat.zero_add, sSeq, sIf, sSet, sRet, sRetN, sPass, sExpr, sRaise, sBrk, sCnt, bd_ok, bd_ex, bd_bad, rs_ok, rs_ex, rs_bad, nx_ok, fVar, fC, f2, fCall, aCons, aNil, vAnd, vOr, vNot, fAnd, fOr, fNot, fTru, tr_non, tr_bl, tr_int, tr_tup, tr_rol, fBl, bl_b, fIf, fIsi, gIsi, isiB, ty_non, ty_bl, ty_int, ty_str, ty_tup, ty_rol, fChain, lf_gtI, lf_ltI, lf_leI, lf_geI, addI, subI, List.getElem?_cons_zero, List.getElem?_cons_succ, List.set_cons_zero, List.set_cons_succ, fTup, fLst, tup0, lst0, tup1, lst1, tup2, lst2, tup3, lst3, tup4, lst4, tup5, lst5, tup6, lst6, tup7, lst7, tup8, lst8, tup9, lst9, tup10, lst10, tup11, lst11, tup12, lst12, fNeg, oSome, oNone, Bool.not_true, Bool.not_false, Bool.false_eq_true, if_true, if_false, ite_true, ite_false, lf_int, lf_lenT, lf_lenO, lf_truB, fM1, sSetIx2, sPar, sPar3, kb_NoneType_int, kb_NoneType_str, kb_NoneType_bool, kb_NoneType_tuple, kb_NoneType_list, kb_NoneType_dict, kb_bool_int, kb_bool_str, kb_bool_bool, kb_bool_tuple, kb_bool_list, kb_bool_dict, kb_int_int, kb_int_str, kb_int_bool, kb_int_tuple, kb_int_list, kb_int_dict, kb_str_int, kb_str_str, kb_str_bool, kb_str_tuple, kb_str_list, kb_str_dict, kb_tuple_int, kb_tuple_str, kb_tuple_bool, kb_tuple_tuple, kb_tuple_list, kb_tuple_dict, kb_list_int, kb_list_str, kb_list_bool, kb_list_tuple, kb_list_list, kb_list_dict, kb_dict_int, kb_dict_str, kb_dict_bool, kb_dict_tuple, kb_dict_list, kb_dict_dict, e1, e]
abbrev ret9 : Mn.Env → Mem → Out := (sRet (vAnd (f2 gNe (fCall F_told_page (aCons (fVar 8) aNil)) (fTup (aCons (fC (.str "bad")) aNil))) (f2 gEq (fCall F_told_page (aCons (fC .non) aNil)) (fTup (aCons (fC (.str "bad")) aNil)))))
theorem eq_bad : gEq badD badD m = .ok (.bl true) m := by
  have hb : SeqAt.shaped (.tuple [.str "bad"]) = true := by decide +kernel
  unfold gEq
  simp only [pyM, pyD, pyL, hb, Bool.and_self, if_true, PyData.eqv, PyData.eqvAll]
  simp
theorem run9 {t : D} {os : List Int} (T : Told t os) : ∃ m', ret9 [x0, some (.ref 0), x2, x3, x4, x5, x6, x7, some (byD (pageOf os))] (o :: r) = .rt (.bl true) m' := by
  obtain ⟨d, g, e, hd⟩ := told_good (m := o :: r) T
  refine ⟨o :: r ++ g, ?_⟩
  have e2 := told_none (m := o :: r ++ g)
  have e3 := eq_bad (m := o :: r ++ g)
  have e4 := hd (o :: r ++ g)
  generalize pageOf os = W at e ⊢
  unfold ret9
  simp only [byD, List.cons_append] at e e2 e3 e4 ⊢
  simp only [fnD, startE, List.map_cons, List.map_nil, List.length_cons, List.length_nil, List.replicate, List.cons_append, List.nil_append, Nat.reduceAdd, Nat.reduceSub, Nat.zero_add, sSeq, sIf, sSet, sRet, sRetN, sPass, sExpr, sRaise, sBrk, sCnt, bd_ok, bd_ex, bd_bad, rs_ok, rs_ex, rs_bad, nx_ok, fVar, fC, f2, fCall, aCons, aNil, vAnd, vOr, vNot, fAnd, fOr, fNot, fTru, tr_non, tr_bl, tr_int, tr_tup, tr_rol, fBl, bl_b, fIf, fIsi, gIsi, isiB, ty_non, ty_bl, ty_int, ty_str, ty_tup, ty_rol, fChain, lf_gtI, lf_ltI, lf_leI, lf_geI, addI, subI, List.getElem?_cons_zero, List.getElem?_cons_succ, List.set_cons_zero, List.set_cons_succ, fTup, fLst, tup0, lst0, tup1, lst1, tup2, lst2, tup3, lst3, tup4, lst4, tup5, lst5, tup6, lst6, tup7, lst7, tup8, lst8, tup9, lst9, tup10, lst10, tup11, lst11, tup12, lst12, fNeg, oSome, oNone, Bool.not_true, Bool.not_false, Bool.false_eq_true, if_true, if_false, ite_true, ite_false, lf_int, lf_lenT, lf_lenO, lf_truB, fM1, sSetIx2, sPar, sPar3, kb_NoneType_int, kb_NoneType_str, kb_NoneType_bool, kb_NoneType_tuple, kb_NoneType_list, kb_NoneType_dict, kb_bool_int, kb_bool_str, kb_bool_bool, kb_bool_tuple, kb_bool_list, kb_bool_dict, kb_int_int, kb_int_str, kb_int_bool, kb_int_tuple, kb_int_list, kb_int_dict, kb_str_int, kb_str_str, kb_str_bool, kb_str_tuple, kb_str_list, kb_str_dict, kb_tuple_int, kb_tuple_str, kb_tuple_bool, kb_tuple_tuple, kb_tuple_list, kb_tuple_dict, kb_list_int, kb_list_str, kb_list_bool, kb_list_tuple, kb_list_list, kb_list_dict, kb_dict_int, kb_dict_str, kb_dict_bool, kb_dict_tuple, kb_dict_list, kb_dict_dict, e, e4, e2, e3]
end
theorem signs6 : gMul2 (.str "abc 7") (.int 10) m = .ok (.str (repS "abc 7" 10)) m := rep_run (by decide) (by decide) (by decide +kernel)
theorem math (ns : List Int) (_ : ns.length ≤ 63) : ∃ m, fnD N_law B_law [.rol (ns.map D.int)] [] = .ok (.bl true) m := by
  suffices hs : ∃ m', B_law (startE N_law [.rol (ns.map D.int)]) [] = .rt (.bl true) m' by
    obtain ⟨m', e⟩ := hs
    exact ⟨m', ev_fnR e⟩
  have s1 : sSet 1 (fLst (aCons (fVar 0) (aCons (fC (.int 0)) (aCons (fC (.int 13906)) (aCons (fC (.int 0)) aNil))))) [some (.rol (ns.map D.int)), none, none, none, none, none, none, none, none] [] = .nx [some (.rol (ns.map D.int)), some (.ref 0), none, none, none, none, none, none, none] [.lst [.rol (ns.map D.int), .int 0, .int 13906, .int 0]] := by
    simp only [fnD, startE, List.map_cons, List.map_nil, List.length_cons, List.length_nil, List.replicate, List.cons_append, List.nil_append, Nat.reduceAdd, Nat.reduceSub, Nat.zero_add, sSeq, sIf, sSet, sRet, sRetN, sPass, sExpr, sRaise, sBrk, sCnt, bd_ok, bd_ex, bd_bad, rs_ok, rs_ex, rs_bad, nx_ok, fVar, fC, f2, fCall, aCons, aNil, vAnd, vOr, vNot, fAnd, fOr, fNot, fTru, tr_non, tr_bl, tr_int, tr_tup, tr_rol, fBl, bl_b, fIf, fIsi, gIsi, isiB, ty_non, ty_bl, ty_int, ty_str, ty_tup, ty_rol, fChain, lf_gtI, lf_ltI, lf_leI, lf_geI, addI, subI, List.getElem?_cons_zero, List.getElem?_cons_succ, List.set_cons_zero, List.set_cons_succ, fTup, fLst, tup0, lst0, tup1, lst1, tup2, lst2, tup3, lst3, tup4, lst4, tup5, lst5, tup6, lst6, tup7, lst7, tup8, lst8, tup9, lst9, tup10, lst10, tup11, lst11, tup12, lst12, fNeg, oSome, oNone, Bool.not_true, Bool.not_false, Bool.false_eq_true, if_true, if_false, ite_true, ite_false, lf_int, lf_lenT, lf_lenO, lf_truB, fM1, sSetIx2, sPar, sPar3, kb_NoneType_int, kb_NoneType_str, kb_NoneType_bool, kb_NoneType_tuple, kb_NoneType_list, kb_NoneType_dict, kb_bool_int, kb_bool_str, kb_bool_bool, kb_bool_tuple, kb_bool_list, kb_bool_dict, kb_int_int, kb_int_str, kb_int_bool, kb_int_tuple, kb_int_list, kb_int_dict, kb_str_int, kb_str_str, kb_str_bool, kb_str_tuple, kb_str_list, kb_str_dict, kb_tuple_int, kb_tuple_str, kb_tuple_bool, kb_tuple_tuple, kb_tuple_list, kb_tuple_dict, kb_list_int, kb_list_str, kb_list_bool, kb_list_tuple, kb_list_list, kb_list_dict, kb_dict_int, kb_dict_str, kb_dict_bool, kb_dict_tuple, kb_dict_list, kb_dict_dict]
  have o1 : IsRow ns (.lst [.rol (ns.map D.int), .int 0, .int 13906, .int 0]) := ⟨0, 13906, 0, rfl, by decide⟩
  refine ex_seq s1 ?_
  generalize (Mn.Obj.lst [.rol (ns.map D.int), .int 0, .int 13906, .int 0]) = oo at o1
  generalize (some (D.rol (ns.map D.int)) : Option D) = x0
  obtain ⟨a, ob, g2, e2, o2, a2, l2⟩ := run2 (ρ := [x0, some (.ref 0), none, none, none, none, none, none, none]) (r := []) o1 rfl
  refine ex_seq (ev_set e2) ?_
  generalize [] ++ g2 = r2
  obtain ⟨g3, e3⟩ := with_check (m := ob :: r2) a2 l2
  refine ex_seq (ev_set (d := byD (wchk a)) (m1 := ob :: (r2 ++ g3)) e3) ?_
  generalize r2 ++ g3 = r3
  obtain ⟨y4, y5, oc, g4, e4, o4⟩ := run4 (x0 := x0) (x2 := some (byD a)) (x4 := none) (x5 := none) (x6 := none) (x7 := none) (x8 := none) (r := r3) o2 a2 l2
  refine ex_seq e4 ?_
  generalize r3 ++ g4 = r4
  refine ex_seq (ev_set (d := .str (repS "abc 7" 10)) (m1 := oc :: r4) signs6) ?_
  have S1 : Signs (repS "abc 7" 10) := fun c hc => signs_of (s := "abc 7") (by decide +kernel) c (rep_mem hc)
  have S2 : (repS "abc 7" 10).length = 50 := by rw [rep_len']; decide +kernel
  generalize repS "abc 7" 10 = SS at S1 S2
  obtain ⟨s, od, e5, o5, hs, l0, hl⟩ := run5 (x0 := x0) (x2 := some (byD a)) (x3 := some (byD (wchk a))) (x4 := y4) (x5 := y5) (x7 := none) (x8 := none) (r := r4) o4 S1 S2
  refine ex_seq (ev_set e5) ?_
  obtain ⟨xs, oe, g6, e6, o6, hx, hxl⟩ := run6 (x0 := x0) (x2 := some (byD a)) (x3 := some (byD (wchk a))) (x4 := y4) (x5 := y5) (x6 := some (.str SS)) (x8 := none) (r := r4 ++ [.lst (TD s)]) (j := r4.length) (L := TD s) o5 getLast rfl
  refine ex_seq (ev_set e6) ?_
  obtain ⟨t, os, of, g7, e7, o7, T⟩ := run7 (x0 := x0) (x2 := some (byD a)) (x3 := some (byD (wchk a))) (x4 := y4) (x5 := y5) (x6 := some (.str SS)) (x8 := none) (r := r4 ++ [.lst (TD s)] ++ g6 ++ [.lst (TD s ++ [tailD 1 5 0 xs])]) (j := (r4 ++ [Mn.Obj.lst (TD s)] ++ g6).length) (s := s) (xs := xs) o6 getLast hs l0 hl hx hxl
  refine ex_seq (ev_set e7) ?_
  generalize (r4 ++ [Mn.Obj.lst (TD s)] ++ g6 ++ [Mn.Obj.lst (TD s ++ [tailD 1 5 0 xs])] ++ g7) = r7
  obtain ⟨z4, og, g8, e8, o8⟩ := run8 (x0 := x0) (x2 := some (byD a)) (x3 := some (byD (wchk a))) (x4 := y4) (x5 := y5) (x6 := some (.str SS)) (x7 := some (.ref ((r4 ++ [Mn.Obj.lst (TD s)] ++ g6).length + 1))) (r := r7) o7 T.byte T.len
  refine ex_seq e8 ?_
  exact run9 T
end
end K06
end
section
set_option Elab.async false
set_option Elab.async false
set_option linter.all false
set_option maxRecDepth 100000
set_option maxHeartbeats 0
namespace K06
open PySem PySem.Spec PyProof.Rows L2 Mn
def hfa : List He.Fa := [.glo "law", .free "all", .free "bool", .free "enumerate", .free "int", .free "isinstance", .free "len", .free "list", .free "ord", .free "range", .free "set", .free "str", .free "sum", .free "tuple", .int "CARD_BYTES" 49, .int "CHECK_BYTES" 4, .int "CHECK_PRIME" 257, .int "MOST_CHECKED" 250, .int "MOST_FREE_PAGES" 200, .int "MOST_IMAGE" 250, .int "MOST_INDEX" 59, .int "MOST_LENGTH" 1000, .int "MOST_SIGNS" 2000, .int "MOST_STAMP" 16777215, .int "MOST_SUM" 4294967296, .int "MOST_TAILS" 20, .int "MOST_THINGS" 24, .int "PAGE_BYTES" 64, .int "PIECE_SIGNS" 50, .str "SIGNS" "abcdefghijklmnopqrstuvwxyzABCDEFGHIJKLMNOPQRSTUVWXYZ0123456789 .,:;=>/-+_()!?", .int "TAIL_BYTES" 54, .int "TOLD_BYTES" 60, .glo "BadBytes", .exc "BadBytes", .glo "BadPage", .exc "BadPage", .glo "BadTold", .exc "BadTold", .glo "is_number", .glo "is_stamp", .glo "is_thing", .glo "is_page_number", .glo "has_only", .glo "is_contents", .glo "is_bytes", .glo "check_bytes", .glo "number_octets", .glo "octets_number", .glo "text_octets", .glo "octets_text", .glo "sums_of", .glo "octets_with_check", .glo "with_check", .glo "without_check", .glo "is_page", .glo "are_tails", .glo "are_bytes", .glo "is_told_head", .glo "is_told_card", .glo "is_told_tail", .glo "is_told_data", .glo "is_told", .glo "card_octets", .glo "told_octets", .glo "page_by", .glo "guessed", .glo "told_by", .glo "written_page", .glo "told_page", .glo "_law_taken", .glo "_law_pick", .glo "_law_changed"]
def hfn : List He.DefD := [dPlain "law" s_law, dPlain "is_number" s_is_number, dPlain "is_stamp" s_is_stamp, dPlain "is_thing" s_is_thing, dPlain "is_page_number" s_is_page_number, dPlain "has_only" s_has_only, dPlain "is_contents" s_is_contents, dPlain "is_bytes" s_is_bytes, dPlain "check_bytes" s_check_bytes, dPlain "number_octets" s_number_octets, dPlain "octets_number" s_octets_number, dPlain "text_octets" s_text_octets, dPlain "octets_text" s_octets_text, dPlain "sums_of" s_sums_of, dPlain "octets_with_check" s_octets_with_check, dPlain "with_check" s_with_check, dPlain "without_check" s_without_check, dPlain "is_page" s_is_page, dPlain "are_tails" s_are_tails, dPlain "are_bytes" s_are_bytes, dPlain "is_told_head" s_is_told_head, dPlain "is_told_card" s_is_told_card, dPlain "is_told_tail" s_is_told_tail, dPlain "is_told_data" s_is_told_data, dPlain "is_told" s_is_told, dPlain "card_octets" s_card_octets, dPlain "told_octets" s_told_octets, dPlain "page_by" s_page_by, dPlain "guessed" s_guessed, dPlain "told_by" s_told_by, dPlain "written_page" s_written_page, dPlain "told_page" s_told_page, dPlain "_law_taken" s_law_taken, dPlain "_law_pick" s_law_pick, dPlain "_law_changed" s_law_changed]
def hcs : List (PySem.Str × D) := [("BAD", .tup [.str "bad"]), ("BLANK", .tup [.int 0, .int 0, .int 0, .int 0, .int 0, .int 0, .int 0, .int 0, .int 0, .int 0, .int 0, .int 0, .int 0, .int 0, .int 0, .int 0, .int 0, .int 0, .int 0, .int 0, .int 0, .int 0, .int 0, .int 0, .int 0, .int 0, .int 0, .int 0, .int 0, .int 0, .int 0, .int 0, .int 0, .int 0, .int 0, .int 0, .int 0, .int 0, .int 0, .int 0, .int 0, .int 0, .int 0, .int 0, .int 0, .int 0, .int 0, .int 0, .int 0, .int 0, .int 0, .int 0, .int 0, .int 0, .int 0, .int 0, .int 0, .int 0, .int 0, .int 0, .int 0, .int 0, .int 0, .int 0])]
def hds : List (PySem.Str × List (PySem.Str × D)) := [("MANY_ITEMS", [("blank", .int 1), ("head", .int 5), ("card", .int 7), ("tail", .int 5), ("data", .int 5)])]
def hts : List He.Tab := [(fun K => He.ga K "MANY_ITEMS", ["blank", "head", "card", "tail", "data"])]
def hex (K : PySem.W.Frag) : Bool := exK ETAB K && (conK hcs K && dicK hds K)
theorem txt {w : World} {K : PySem.W.Frag} {h : Heap} {mg : Str → Option Value} (X : K.In h) (G : h.Ns mainGlobals mg) (c : He.SaysD hfa hfn K) (ee : hex K = true) (tb : ∀ (i : Nat) (t : He.Tab), hts[i]? = some t → ∃ es n, KDict K w (t.1 K) es n) : Txt w K mg :=
  have e : exK ETAB K = true := (He.ba ee).1
  have e2 : conK hcs K = true := (He.ba (He.ba ee).2).1
  have e3 : dicK hds K = true := (He.ba (He.ba ee).2).2
  { b_all := He.free_ok X G (c.fact 1 (f := .free "all") rfl),
    b_bool := He.free_ok X G (c.fact 2 (f := .free "bool") rfl),
    b_enumerate := He.free_ok X G (c.fact 3 (f := .free "enumerate") rfl),
    b_int := He.free_ok X G (c.fact 4 (f := .free "int") rfl),
    b_isinstance := He.free_ok X G (c.fact 5 (f := .free "isinstance") rfl),
    b_len := He.free_ok X G (c.fact 6 (f := .free "len") rfl),
    b_list := He.free_ok X G (c.fact 7 (f := .free "list") rfl),
    b_ord := He.free_ok X G (c.fact 8 (f := .free "ord") rfl),
    b_range := He.free_ok X G (c.fact 9 (f := .free "range") rfl),
    b_set := He.free_ok X G (c.fact 10 (f := .free "set") rfl),
    b_str := He.free_ok X G (c.fact 11 (f := .free "str") rfl),
    b_sum := He.free_ok X G (c.fact 12 (f := .free "sum") rfl),
    b_tuple := He.free_ok X G (c.fact 13 (f := .free "tuple") rfl),
    c_CARD_BYTES := He.int_ok X G (c.fact 14 (f := .int "CARD_BYTES" 49) rfl),
    c_CHECK_BYTES := He.int_ok X G (c.fact 15 (f := .int "CHECK_BYTES" 4) rfl),
    c_CHECK_PRIME := He.int_ok X G (c.fact 16 (f := .int "CHECK_PRIME" 257) rfl),
    c_MOST_CHECKED := He.int_ok X G (c.fact 17 (f := .int "MOST_CHECKED" 250) rfl),
    c_MOST_FREE_PAGES := He.int_ok X G (c.fact 18 (f := .int "MOST_FREE_PAGES" 200) rfl),
    c_MOST_IMAGE := He.int_ok X G (c.fact 19 (f := .int "MOST_IMAGE" 250) rfl),
    c_MOST_INDEX := He.int_ok X G (c.fact 20 (f := .int "MOST_INDEX" 59) rfl),
    c_MOST_LENGTH := He.int_ok X G (c.fact 21 (f := .int "MOST_LENGTH" 1000) rfl),
    c_MOST_SIGNS := He.int_ok X G (c.fact 22 (f := .int "MOST_SIGNS" 2000) rfl),
    c_MOST_STAMP := He.int_ok X G (c.fact 23 (f := .int "MOST_STAMP" 16777215) rfl),
    c_MOST_SUM := He.int_ok X G (c.fact 24 (f := .int "MOST_SUM" 4294967296) rfl),
    c_MOST_TAILS := He.int_ok X G (c.fact 25 (f := .int "MOST_TAILS" 20) rfl),
    c_MOST_THINGS := He.int_ok X G (c.fact 26 (f := .int "MOST_THINGS" 24) rfl),
    c_PAGE_BYTES := He.int_ok X G (c.fact 27 (f := .int "PAGE_BYTES" 64) rfl),
    c_PIECE_SIGNS := He.int_ok X G (c.fact 28 (f := .int "PIECE_SIGNS" 50) rfl),
    c_SIGNS := He.str_ok X G (c.fact 29 (f := .str "SIGNS" "abcdefghijklmnopqrstuvwxyzABCDEFGHIJKLMNOPQRSTUVWXYZ0123456789 .,:;=>/-+_()!?") rfl),
    c_TAIL_BYTES := He.int_ok X G (c.fact 30 (f := .int "TAIL_BYTES" 54) rfl),
    c_TOLD_BYTES := He.int_ok X G (c.fact 31 (f := .int "TOLD_BYTES" 60) rfl),
    tab := tabOk_of X G e,
    e_BadBytes := errOk_of X G (c.fact 32 (f := .glo "BadBytes") rfl) (c.fact 33 (f := .exc "BadBytes") rfl),
    e_BadPage := errOk_of X G (c.fact 34 (f := .glo "BadPage") rfl) (c.fact 35 (f := .exc "BadPage") rfl),
    e_BadTold := errOk_of X G (c.fact 36 (f := .glo "BadTold") rfl) (c.fact 37 (f := .exc "BadTold") rfl),
    f_is_number := funAt_of X G c (List.mem_of_getElem? (i := 1) rfl) (List.mem_of_getElem? (i := 38) rfl) fun _ _ _ _ _ _ us hl => match us, hl with | [_, _, _], _ => rfl,
    f_is_stamp := funAt_of X G c (List.mem_of_getElem? (i := 2) rfl) (List.mem_of_getElem? (i := 39) rfl) fun _ _ _ _ _ _ us hl => match us, hl with | [_], _ => rfl,
    f_is_thing := funAt_of X G c (List.mem_of_getElem? (i := 3) rfl) (List.mem_of_getElem? (i := 40) rfl) fun _ _ _ _ _ _ us hl => match us, hl with | [_], _ => rfl,
    f_is_page_number := funAt_of X G c (List.mem_of_getElem? (i := 4) rfl) (List.mem_of_getElem? (i := 41) rfl) fun _ _ _ _ _ _ us hl => match us, hl with | [_], _ => rfl,
    f_has_only := funAt_of X G c (List.mem_of_getElem? (i := 5) rfl) (List.mem_of_getElem? (i := 42) rfl) fun _ _ _ _ _ _ us hl => match us, hl with | [_, _], _ => rfl,
    f_is_contents := funAt_of X G c (List.mem_of_getElem? (i := 6) rfl) (List.mem_of_getElem? (i := 43) rfl) fun _ _ _ _ _ _ us hl => match us, hl with | [_], _ => rfl,
    f_is_bytes := funAt_of X G c (List.mem_of_getElem? (i := 7) rfl) (List.mem_of_getElem? (i := 44) rfl) fun _ _ _ _ _ _ us hl => match us, hl with | [_, _], _ => rfl,
    f_check_bytes := funAt_of X G c (List.mem_of_getElem? (i := 8) rfl) (List.mem_of_getElem? (i := 45) rfl) fun _ _ _ _ _ _ us hl => match us, hl with | [_, _], _ => rfl,
    f_number_octets := funAt_of X G c (List.mem_of_getElem? (i := 9) rfl) (List.mem_of_getElem? (i := 46) rfl) fun _ _ _ _ _ _ us hl => match us, hl with | [_, _], _ => rfl,
    f_octets_number := funAt_of X G c (List.mem_of_getElem? (i := 10) rfl) (List.mem_of_getElem? (i := 47) rfl) fun _ _ _ _ _ _ us hl => match us, hl with | [_], _ => rfl,
    f_text_octets := funAt_of X G c (List.mem_of_getElem? (i := 11) rfl) (List.mem_of_getElem? (i := 48) rfl) fun _ _ _ _ _ _ us hl => match us, hl with | [_], _ => rfl,
    f_octets_text := funAt_of X G c (List.mem_of_getElem? (i := 12) rfl) (List.mem_of_getElem? (i := 49) rfl) fun _ _ _ _ _ _ us hl => match us, hl with | [_], _ => rfl,
    f_sums_of := funAt_of X G c (List.mem_of_getElem? (i := 13) rfl) (List.mem_of_getElem? (i := 50) rfl) fun _ _ _ _ _ _ us hl => match us, hl with | [_], _ => rfl,
    f_octets_with_check := funAt_of X G c (List.mem_of_getElem? (i := 14) rfl) (List.mem_of_getElem? (i := 51) rfl) fun _ _ _ _ _ _ us hl => match us, hl with | [_], _ => rfl,
    f_with_check := funAt_of X G c (List.mem_of_getElem? (i := 15) rfl) (List.mem_of_getElem? (i := 52) rfl) fun _ _ _ _ _ _ us hl => match us, hl with | [_], _ => rfl,
    f_without_check := funAt_of X G c (List.mem_of_getElem? (i := 16) rfl) (List.mem_of_getElem? (i := 53) rfl) fun _ _ _ _ _ _ us hl => match us, hl with | [_], _ => rfl,
    f_is_page := funAt_of X G c (List.mem_of_getElem? (i := 17) rfl) (List.mem_of_getElem? (i := 54) rfl) fun _ _ _ _ _ _ us hl => match us, hl with | [_], _ => rfl,
    f_are_tails := funAt_of X G c (List.mem_of_getElem? (i := 18) rfl) (List.mem_of_getElem? (i := 55) rfl) fun _ _ _ _ _ _ us hl => match us, hl with | [_, _], _ => rfl,
    f_are_bytes := funAt_of X G c (List.mem_of_getElem? (i := 19) rfl) (List.mem_of_getElem? (i := 56) rfl) fun _ _ _ _ _ _ us hl => match us, hl with | [_, _], _ => rfl,
    f_is_told_head := funAt_of X G c (List.mem_of_getElem? (i := 20) rfl) (List.mem_of_getElem? (i := 57) rfl) fun _ _ _ _ _ _ us hl => match us, hl with | [_], _ => rfl,
    f_is_told_card := funAt_of X G c (List.mem_of_getElem? (i := 21) rfl) (List.mem_of_getElem? (i := 58) rfl) fun _ _ _ _ _ _ us hl => match us, hl with | [_], _ => rfl,
    f_is_told_tail := funAt_of X G c (List.mem_of_getElem? (i := 22) rfl) (List.mem_of_getElem? (i := 59) rfl) fun _ _ _ _ _ _ us hl => match us, hl with | [_], _ => rfl,
    f_is_told_data := funAt_of X G c (List.mem_of_getElem? (i := 23) rfl) (List.mem_of_getElem? (i := 60) rfl) fun _ _ _ _ _ _ us hl => match us, hl with | [_], _ => rfl,
    f_is_told := funAt_of X G c (List.mem_of_getElem? (i := 24) rfl) (List.mem_of_getElem? (i := 61) rfl) fun _ _ _ _ _ _ us hl => match us, hl with | [_], _ => rfl,
    f_card_octets := funAt_of X G c (List.mem_of_getElem? (i := 25) rfl) (List.mem_of_getElem? (i := 62) rfl) fun _ _ _ _ _ _ us hl => match us, hl with | [_], _ => rfl,
    f_told_octets := funAt_of X G c (List.mem_of_getElem? (i := 26) rfl) (List.mem_of_getElem? (i := 63) rfl) fun _ _ _ _ _ _ us hl => match us, hl with | [_], _ => rfl,
    f_page_by := funAt_of X G c (List.mem_of_getElem? (i := 27) rfl) (List.mem_of_getElem? (i := 64) rfl) fun _ _ _ _ _ _ us hl => match us, hl with | [_], _ => rfl,
    f_guessed := funAt_of X G c (List.mem_of_getElem? (i := 28) rfl) (List.mem_of_getElem? (i := 65) rfl) fun _ _ _ _ _ _ us hl => match us, hl with | [_], _ => rfl,
    f_told_by := funAt_of X G c (List.mem_of_getElem? (i := 29) rfl) (List.mem_of_getElem? (i := 66) rfl) fun _ _ _ _ _ _ us hl => match us, hl with | [_], _ => rfl,
    f_written_page := funAt_of X G c (List.mem_of_getElem? (i := 30) rfl) (List.mem_of_getElem? (i := 67) rfl) fun _ _ _ _ _ _ us hl => match us, hl with | [_], _ => rfl,
    f_told_page := funAt_of X G c (List.mem_of_getElem? (i := 31) rfl) (List.mem_of_getElem? (i := 68) rfl) fun _ _ _ _ _ _ us hl => match us, hl with | [_], _ => rfl,
    f_law_taken := funAt_of X G c (List.mem_of_getElem? (i := 32) rfl) (List.mem_of_getElem? (i := 69) rfl) fun _ _ _ _ _ _ us hl => match us, hl with | [_, _], _ => rfl,
    f_law_pick := funAt_of X G c (List.mem_of_getElem? (i := 33) rfl) (List.mem_of_getElem? (i := 70) rfl) fun _ _ _ _ _ _ us hl => match us, hl with | [_, _], _ => rfl,
    f_law_changed := funAt_of X G c (List.mem_of_getElem? (i := 34) rfl) (List.mem_of_getElem? (i := 71) rfl) fun _ _ _ _ _ _ us hl => match us, hl with | [_, _, _], _ => rfl,
    cc_BAD := conV_of X G e2 (List.mem_of_getElem? (i := 0) rfl),
    cc_BLANK := conV_of X G e2 (List.mem_of_getElem? (i := 1) rfl),
    cd_MANY_ITEMS := dicV_of X G e3 (List.mem_of_getElem? (i := 0) rfl) (tb 0 _ rfl) }
def hnames : List PySem.Str := (["KeepError", "BadBytes", "BadPage", "BadTold", "MOST_STAMP", "MOST_SUM", "MOST_THINGS", "MOST_FREE_PAGES", "MOST_IMAGE", "is_number", "is_stamp", "is_thing", "is_page_number", "SIGNS", "MOST_SIGNS", "has_only", "is_contents", "MOST_CHECKED", "CHECK_BYTES", "CHECK_PRIME", "is_bytes", "check_bytes", "number_octets", "octets_number", "text_octets", "octets_text", "sums_of", "octets_with_check", "with_check", "without_check"] : List PySem.Str) ++ (["PAGE_BYTES", "TOLD_BYTES", "BLANK", "BAD", "MOST_INDEX", "MOST_LENGTH", "MOST_TAILS", "CARD_BYTES", "TAIL_BYTES", "PIECE_SIGNS", "MANY_ITEMS", "is_page", "are_tails", "are_bytes", "is_told_head", "is_told_card", "is_told_tail", "is_told_data", "is_told", "card_octets", "told_octets", "page_by", "guessed", "told_by", "written_page", "told_page", "_law_taken", "_law_pick", "_law_changed"] : List PySem.Str)
abbrev hR : PySem.W.OpenRow := PySem.W.OpenLaw.row PySem.Challenge.rw_keptanyhow_k06_whole_changes_found
abbrev hk : PySem.W.Hook := He.hookX 4 hfa hfn hts [("law", none)] hex
def hob (s : PySem.W.SharedT) : He.AlX := He.obsX 4 hfa hfn hts [("law", none)] hex (HandSHeadRun.getT s)
theorem hob_eq (s : PySem.W.SharedT) : hob s = hk.obs s.abs := He.obsX_eq (HandSHeadRun.getT_eq s)
theorem hrun_true (w : World) : HandSHeadRun.RunEq hR (PySem.W.view hR.prog [65]) hk hob 4000 hnames (w.withFollow "special-get-raises" true) := by
  intro os
  kernel_rfl
theorem hrun_false (w : World) : HandSHeadRun.RunEq hR (PySem.W.view hR.prog [65]) hk hob 4000 hnames (w.withFollow "special-get-raises" false) := by
  intro os
  kernel_rfl
theorem hrun (w : World) : HandSHeadRun.RunEq hR (PySem.W.view hR.prog [65]) hk hob 4000 hnames w := by
  have h : ∀ b, HandSHeadRun.RunEq hR (PySem.W.view hR.prog [65]) hk hob 4000 hnames (w.withFollow "special-get-raises" b) := fun b => match b with | true => hrun_true w | false => hrun_false w
  have z := h (w.params.followText "special-get-raises")
  rwa [World.withFollow_self] at z
end K06
open PySem PySem.W PySem.Calls PyProof.Rows
theorem PySem.Challenge.cw_keptanyhow_k06_whole_changes_found_holds : PySem.Challenge.rw_keptanyhow_k06_whole_changes_found.Holds := by
  w_on; o_law
  refine HandSHeadRun.head_any (r := OpenLaw.row PySem.Challenge.rw_keptanyhow_k06_whole_changes_found) (q := view (OpenLaw.row PySem.Challenge.rw_keptanyhow_k06_whole_changes_found).prog [65]) (H := K06.hk) (ob := K06.hob) (M := 4000) (loose := K06.hnames) (d := HandSHeadRun.topDef (OpenLaw.row PySem.Challenge.rw_keptanyhow_k06_whole_changes_found).prog 65) (kwd := []) K06.hob_eq
    (by kernel_rfl) (fun s => by kernel_rfl) K06.hrun (by kernel_rfl) (by kernel_rfl) (by kernel_rfl) (by rfl) (by first | assumption | decide +kernel) (by decide +kernel) ⟨rfl, rfl, rfl, rfl, rfl, by decide +kernel⟩ ?hw ?hc
  case hw => w_witness2
  case hc =>
    refine LamX.walk_ofTsE (l := PySem.Challenge.rw_keptanyhow_k06_whole_changes_found) (n := 63) (k := 8) (x := "script") (CX := fun w => L2.CX (PySem.Challenge.rw_keptanyhow_k06_whole_changes_found).prog w) rfl (by decide) (by kernel_rfl) ⟨rfl, by decide, by decide⟩ ?F (fun _ _ _ _ _ h => Mn.cx_none h)
    intro w mg fa h Y G hmg0
    obtain ⟨K, KX, S⟩ := Y
    have hmg : mg ("law" : PySem.Str) = some (.ref fa) := by
      have e : (HandSHeadRun.topDef (OpenLaw.row PySem.Challenge.rw_keptanyhow_k06_whole_changes_found).prog 65).name = ("law" : PySem.Str) := by kernel_rfl
      rw [← e]
      exact hmg0
    have c : He.SaysD K06.hfa K06.hfn K := congrArg (fun z : He.AlT => z.1) S.t
    have T := K06.txt KX G c S.more (fun i t hi => He.SaysT.tab S.t i hi)
    exact ⟨K, KX, Mn.lawAt (lam := K06.lamL) KX G hmg S c (List.mem_singleton.mpr rfl) (List.mem_of_getElem? (i := 0) rfl) (List.mem_of_getElem? (i := 0) rfl) (fun _ _ _ _ _ _ us hl => match us, hl with | [_], _ => rfl) K06.sc_law
      (fun i base f cdv A outer s H E P0 c hr lc TB hc => K06.body_law T hr lc TB hc) K06.math⟩
end

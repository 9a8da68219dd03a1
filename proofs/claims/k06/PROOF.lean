import PyProof.Rows.All
import Wide.All
import OpenK.AllK
import Wide.FinOn
import PyProof.EqAt
import PyProof.EqKinds
import PyProof.TupleCall
import HandS.ForMost
import HandS.ForExc
import HandS.CallSlots
import HandS.SortInts
import HandS.SortRule
import KE.DataEq
import HandS.IsInst
import HandS.More
import HandS.ExcInit
import HandS.ExcField
import HandS.ExcIs
import HandS.WordsExc
import KE.KExcIs
import KE.KTryMore
import HandS.TryMany
import HandS.Set
import HandS.SetFor
import HandS.Strs
import HandS.SetBool
import HandS.Ends
import PySem.Challenge.RW_quorumdrift_k06_straight_lists
set_option Elab.async false
set_option linter.all false
set_option maxRecDepth 100000
set_option maxHeartbeats 4000000
section
set_option Elab.async false
set_option linter.all false
set_option maxRecDepth 100000
set_option maxHeartbeats 2000000
/-! A layer of plain data over the hand layer: what a def does, as a total Lean function of plain values. -/
namespace Za
open PySem PySem.Spec PyProof.Rows L2

abbrev St := L2.St
/-- plain data -/
inductive D where
  | non | bl (b : Bool) | int (i : Int) | str (x : Str)
  | lst (xs : List D) | tup (xs : List D)
  /-- a list that is read alone: the script, a list of the module's own -/
  | kst (xs : List D)
  | dct (ks vs : List D)
  | obj (c : Nat) (ns : List Str) (vs : List D)
deriving Inhabited

mutual
def D.eqb : D → D → Bool
  | .non, .non => true
  | .bl a, .bl b => a == b
  | .int a, .int b => a == b
  | .str a, .str b => decide (a = b)
  | .lst a, .lst b => D.eqbs a b
  | .tup a, .tup b => D.eqbs a b
  | .kst a, .kst b => D.eqbs a b
  | .dct a c, .dct b d => D.eqbs a b && D.eqbs c d
  | .obj a c e, .obj b d f => a == b && decide (c = d) && D.eqbs e f
  | _, _ => false
def D.eqbs : List D → List D → Bool
  | [], [] => true
  | a :: as, b :: bs => D.eqb a b && D.eqbs as bs
  | _, _ => false
end
mutual
theorem D.eqb_refl : ∀ d : D, D.eqb d d = true
  | .non => rfl
  | .bl a => by simp [D.eqb]
  | .int a => by simp [D.eqb]
  | .str a => by simp [D.eqb]
  | .lst a => by simp [D.eqb, D.eqbs_refl a]
  | .tup a => by simp [D.eqb, D.eqbs_refl a]
  | .kst a => by simp [D.eqb, D.eqbs_refl a]
  | .dct a c => by simp [D.eqb, D.eqbs_refl a, D.eqbs_refl c]
  | .obj a c e => by simp [D.eqb, D.eqbs_refl e]
theorem D.eqbs_refl : ∀ d : List D, D.eqbs d d = true
  | [] => rfl
  | a :: as => by simp [D.eqbs, D.eqb_refl a, D.eqbs_refl as]
end
mutual
theorem D.eqb_eq : ∀ {d e : D}, D.eqb d e = true → d = e
  | .non, e, h => by cases e <;> simp [D.eqb] at h <;> rfl
  | .bl a, e, h => by cases e <;> simp [D.eqb] at h <;> rw [h]
  | .int a, e, h => by cases e <;> simp [D.eqb] at h <;> rw [h]
  | .str a, e, h => by cases e <;> simp [D.eqb] at h <;> rw [h]
  | .lst a, e, h => by cases e <;> simp [D.eqb] at h <;> rw [D.eqbs_eq h]
  | .tup a, e, h => by cases e <;> simp [D.eqb] at h <;> rw [D.eqbs_eq h]
  | .kst a, e, h => by cases e <;> simp [D.eqb] at h <;> rw [D.eqbs_eq h]
  | .dct a c, e, h => by cases e <;> simp [D.eqb] at h <;> rw [D.eqbs_eq h.1, D.eqbs_eq h.2]
  | .obj a c e, f, h => by cases f <;> simp [D.eqb] at h <;> rw [h.1.1, h.1.2, D.eqbs_eq h.2]
theorem D.eqbs_eq : ∀ {d e : List D}, D.eqbs d e = true → d = e
  | [], e, h => by cases e <;> simp [D.eqbs] at h <;> rfl
  | a :: as, e, h => by cases e <;> simp [D.eqbs] at h <;> rw [D.eqb_eq h.1, D.eqbs_eq h.2]
end

def keyD : Key → D
  | .inl i => .int i
  | .inr x => .str x
def keyT (k : List Key) : D := .tup (k.map keyD)

structure G0 where
  K : PySem.W.Frag
  cA : Nat → Addr

def Le (F H : Hp) : Prop := ∀ a o, F a = some o → H a = some o
theorem Le.refl (F : Hp) : Le F F := fun _ _ h => h
theorem Le.trans {F G H : Hp} (a : Le F G) (b : Le G H) : Le F H := fun x o h => b x o (a x o h)

mutual
inductive Rep (g : G0) (F : Hp) : V → D → Prop
  | non : Rep g F .non .non
  | bl (b : Bool) : Rep g F (.bl b) (.bl b)
  | int (i : Int) : Rep g F (.int i) (.int i)
  | str (x : Str) : Rep g F (.str x) (.str x)
  | lst {a : Addr} {xs : List V} {ds : List D} : F a = some (.lst xs) → Reps g F xs ds → Rep g F (.ref a) (.lst ds)
  | kst {a : Addr} {xs : List V} {ds : List D} : SqL g.K F a xs → Reps g F xs ds → Rep g F (.ref a) (.kst ds)
  | tup {a : Addr} {xs : List V} {ds : List D} : SqT g.K F a xs → Reps g F xs ds → Rep g F (.ref a) (.tup ds)
  | dk {a : Addr} {kvs : List (Key × V)} {vs : List D} : F a = some (.dK kvs) → Reps g F (kvs.map (·.2)) vs → Rep g F (.ref a) (.dct (kvs.map fun p => keyD p.1) vs)
  | dt {a : Addr} {kvs : List (List Key × V)} {vs : List D} : F a = some (.dT kvs) → Reps g F (kvs.map (·.2)) vs → Rep g F (.ref a) (.dct (kvs.map fun p => keyT p.1) vs)
  | obj {a dx : Addr} {fs : List (Str × V)} {c : Nat} {vs : List D} : F a = some (.ins (g.cA c) dx fs) → Reps g F (fs.map (·.2)) vs → Rep g F (.ref a) (.obj c (fs.map (·.1)) vs)
inductive Reps (g : G0) (F : Hp) : List V → List D → Prop
  | nil : Reps g F [] []
  | cons {v : V} {vs : List V} {d : D} {ds : List D} : Rep g F v d → Reps g F vs ds → Reps g F (v :: vs) (d :: ds)
end

theorem le_l {K : PySem.W.Frag} {F F' : Hp} {a : Addr} {xs : List V} (e : Le F F') (h : SqL K F a xs) : SqL K F' a xs := by
  rcases h with (h | ⟨o, h⟩) | h
  · exact .inl (.inl (e _ _ h))
  · exact .inl (.inr ⟨o, e _ _ h⟩)
  · exact .inr h
theorem le_t {K : PySem.W.Frag} {F F' : Hp} {a : Addr} {xs : List V} (e : Le F F') (h : SqT K F a xs) : SqT K F' a xs := by
  rcases h with (h | ⟨o, h⟩) | h
  · exact .inl (.inl (e _ _ h))
  · exact .inl (.inr ⟨o, e _ _ h⟩)
  · exact .inr h

mutual
theorem Rep.mono {g : G0} {F F' : Hp} (e : Le F F') : ∀ {v : V} {d : D}, Rep g F v d → Rep g F' v d
  | _, _, .non => .non
  | _, _, .bl b => .bl b
  | _, _, .int i => .int i
  | _, _, .str x => .str x
  | _, _, .lst h r => .lst (e _ _ h) (Reps.mono e r)
  | _, _, .kst h r => .kst (le_l e h) (Reps.mono e r)
  | _, _, .tup h r => .tup (le_t e h) (Reps.mono e r)
  | _, _, .dk h r => .dk (e _ _ h) (Reps.mono e r)
  | _, _, .dt h r => .dt (e _ _ h) (Reps.mono e r)
  | _, _, .obj h r => .obj (e _ _ h) (Reps.mono e r)
theorem Reps.mono {g : G0} {F F' : Hp} (e : Le F F') : ∀ {vs : List V} {ds : List D}, Reps g F vs ds → Reps g F' vs ds
  | _, _, .nil => .nil
  | _, _, .cons h r => .cons (Rep.mono e h) (Reps.mono e r)
end

section reps
variable {g : G0} {F : Hp}
theorem Reps.length : ∀ {vs : List V} {ds : List D}, Reps g F vs ds → vs.length = ds.length
  | _, _, .nil => rfl
  | _, _, .cons _ r => by simp [Reps.length r]
theorem Reps.get : ∀ {vs : List V} {ds : List D} {i : Nat} {v : V}, Reps g F vs ds → vs[i]? = some v → ∃ d, ds[i]? = some d ∧ Rep g F v d
  | _, _, _, _, .nil, e => by simp at e
  | _, _, 0, _, .cons h _, e => by simp at e; subst e; exact ⟨_, rfl, h⟩
  | _, _, i + 1, _, .cons _ r, e => by
    obtain ⟨d, h1, h2⟩ := Reps.get (i := i) r (by simpa using e)
    exact ⟨d, by simpa using h1, h2⟩
theorem Reps.getD' : ∀ {vs : List V} {ds : List D} {i : Nat} {d : D}, Reps g F vs ds → ds[i]? = some d → ∃ v, vs[i]? = some v ∧ Rep g F v d
  | _, _, _, _, .nil, e => by simp at e
  | _, _, 0, _, .cons h _, e => by simp at e; subst e; exact ⟨_, rfl, h⟩
  | _, _, i + 1, _, .cons _ r, e => by
    obtain ⟨d, h1, h2⟩ := Reps.getD' (i := i) r (by simpa using e)
    exact ⟨d, by simpa using h1, h2⟩
theorem Reps.append : ∀ {vs ws : List V} {ds es : List D}, Reps g F vs ds → Reps g F ws es → Reps g F (vs ++ ws) (ds ++ es)
  | _, _, _, _, .nil, s => s
  | _, _, _, _, .cons h r, s => .cons h (Reps.append r s)
theorem Reps.one {v : V} {d : D} (h : Rep g F v d) : Reps g F [v] [d] := .cons h .nil
theorem Reps.take : ∀ {vs : List V} {ds : List D} (n : Nat), Reps g F vs ds → Reps g F (vs.take n) (ds.take n)
  | _, _, 0, _ => .nil
  | _, _, _ + 1, .nil => .nil
  | _, _, n + 1, .cons h r => .cons h (Reps.take n r)
theorem Reps.drop : ∀ {vs : List V} {ds : List D} (n : Nat), Reps g F vs ds → Reps g F (vs.drop n) (ds.drop n)
  | _, _, 0, r => r
  | _, _, _ + 1, .nil => .nil
  | _, _, n + 1, .cons _ r => Reps.drop n r
theorem Reps.set : ∀ {vs : List V} {ds : List D} {v : V} {d : D} (i : Nat), Rep g F v d → Reps g F vs ds → Reps g F (vs.set i v) (ds.set i d)
  | _, _, _, _, _, _, .nil => .nil
  | _, _, _, _, 0, h, .cons _ r => .cons h r
  | _, _, _, _, i + 1, h, .cons q r => .cons q (Reps.set i h r)
theorem Reps.eraseIdx : ∀ {vs : List V} {ds : List D} (i : Nat), Reps g F vs ds → Reps g F (vs.eraseIdx i) (ds.eraseIdx i)
  | _, _, _, .nil => .nil
  | _, _, 0, .cons _ r => r
  | _, _, i + 1, .cons q r => .cons q (Reps.eraseIdx i r)
theorem Reps.reverse {vs : List V} {ds : List D} (h : Reps g F vs ds) : Reps g F vs.reverse ds.reverse := by
  have all : ∀ {vs : List V} {ds : List D}, Reps g F vs ds → Reps g F vs.reverse ds.reverse := by
    intro vs
    induction vs with
    | nil => intro ds h; cases h; exact .nil
    | cons v vs ih =>
      intro ds h
      cases h with
      | cons h r =>
        simp only [List.reverse_cons]
        exact (ih r).append (.one h)
  exact all h
theorem Reps.ints : ∀ (ns : List Int), Reps g F (ns.map V.int) (ns.map D.int)
  | [] => .nil
  | n :: ns => .cons (.int n) (Reps.ints ns)
theorem Reps.of_ints : ∀ {ns : List Int} {vs : List V}, Reps g F vs (ns.map D.int) → vs = ns.map V.int
  | [], _, h => by cases h; rfl
  | n :: ns, _, h => by
    cases h with
    | cons h r => cases h; rw [Reps.of_ints r]; rfl
end reps

/-! ### objects of one's own: their content in H, what is in it in F -/
inductive CellAt (g : G0) (F H : Hp) (a : Addr) : D → Prop
  | lst {xs : List V} {ds : List D} : H a = some (.lst xs) → Reps g F xs ds → CellAt g F H a (.lst ds)
  | dk {kvs : List (Key × V)} {vs : List D} : H a = some (.dK kvs) → Reps g F (kvs.map (·.2)) vs → CellAt g F H a (.dct (kvs.map fun p => keyD p.1) vs)
  | dt {kvs : List (List Key × V)} {vs : List D} : H a = some (.dT kvs) → Reps g F (kvs.map (·.2)) vs → CellAt g F H a (.dct (kvs.map fun p => keyT p.1) vs)
  | obj {dx : Addr} {fs : List (Str × V)} {c : Nat} {vs : List D} : H a = some (.ins (g.cA c) dx fs) → Reps g F (fs.map (·.2)) vs → CellAt g F H a (.obj c (fs.map (·.1)) vs)
/-- what may be a cell -/
def cellO : HO → Bool
  | .lst _ | .dK _ | .dT _ | .ins _ _ _ => true
  | _ => false
section cell
variable {g : G0} {F F' H H' : Hp} {a : Addr} {d : D}
theorem CellAt.obj' (c : CellAt g F H a d) : ∃ o, H a = some o ∧ cellO o = true := by
  cases c with
  | lst h _ => exact ⟨_, h, rfl⟩
  | dk h _ => exact ⟨_, h, rfl⟩
  | dt h _ => exact ⟨_, h, rfl⟩
  | obj h _ => exact ⟨_, h, rfl⟩
theorem CellAt.mono (c : CellAt g F H a d) (e : Le F F') (h : H' a = H a) : CellAt g F' H' a d := by
  cases c with
  | lst h1 r => exact .lst (h.trans h1) (r.mono e)
  | dk h1 r => exact .dk (h.trans h1) (r.mono e)
  | dt h1 r => exact .dt (h.trans h1) (r.mono e)
  | obj h1 r => exact .obj (h.trans h1) (r.mono e)
/-- frozen -/
theorem CellAt.rep (c : CellAt g F H a d) (e : Le F F') (h : F' a = H a) : Rep g F' (.ref a) d := by
  cases c with
  | lst h1 r => exact .lst (h.trans h1) (r.mono e)
  | dk h1 r => exact .dk (h.trans h1) (r.mono e)
  | dt h1 r => exact .dt (h.trans h1) (r.mono e)
  | obj h1 r => exact .obj (h.trans h1) (r.mono e)
end cell

/-! ### a shell: a list or tuple that does not change; what is in it is frozen, or an object of one's own -/
inductive Kid where
  | fz (d : D) | ow (d : D)
deriving Inhabited
def kidD : Kid → D
  | .fz d => d
  | .ow d => d
def shellD (ls : Bool) (ks : List Kid) : D := if ls then .lst (ks.map kidD) else .tup (ks.map kidD)
def ShellO (ls : Bool) (F : Hp) (q : Addr) (xs : List V) : Prop := F q = some (if ls then HO.lst xs else HO.tup xs)
theorem ShellO.le {ls : Bool} {F F' : Hp} {q : Addr} {xs : List V} (h : ShellO ls F q xs) (e : Le F F') : ShellO ls F' q xs := e _ _ h
theorem ShellO.det {ls : Bool} {F : Hp} {q : Addr} {xs ys : List V} (h : ShellO ls F q xs) (h' : ShellO ls F q ys) : xs = ys := by
  unfold ShellO at h h'
  rw [h] at h'
  cases ls <;> (simp at h'; exact h')
/-- a is a kid's address -/
def KidA (xs : List V) (ks : List Kid) (a : Addr) : Prop := ∃ (k : Nat) (d : D), ks[k]? = some (.ow d) ∧ xs[k]? = some (.ref a)
def KidOk (g : G0) (F H : Hp) (v : V) : Kid → Prop
  | .fz d => Rep g F v d
  | .ow d => ∃ a, v = .ref a ∧ F a = none ∧ CellAt g F H a d
structure Kids (g : G0) (F H : Hp) (xs : List V) (ks : List Kid) : Prop where
  len : xs.length = ks.length
  ok : ∀ (k : Nat) (v : V) (kd : Kid), xs[k]? = some v → ks[k]? = some kd → KidOk g F H v kd
  inj : ∀ (k l : Nat) (d e : D) (a : Addr), ks[k]? = some (.ow d) → ks[l]? = some (.ow e) → xs[k]? = some (.ref a) → xs[l]? = some (.ref a) → k = l
theorem Kids.at_ {g : G0} {F H : Hp} {xs : List V} {ks : List Kid} (K : Kids g F H xs ks) {k : Nat} {kd : Kid} (e : ks[k]? = some kd) : ∃ v, xs[k]? = some v ∧ KidOk g F H v kd := by
  have hk : k < xs.length := by rw [K.len]; exact (List.getElem?_eq_some_iff.mp e).1
  exact ⟨xs[k], List.getElem?_eq_getElem hk, K.ok k _ kd (List.getElem?_eq_getElem hk) e⟩
theorem Kids.own {g : G0} {F H : Hp} {xs : List V} {ks : List Kid} (K : Kids g F H xs ks) {a : Addr} (h : KidA xs ks a) : F a = none ∧ ∃ d, CellAt g F H a d := by
  obtain ⟨k, d, e1, e2⟩ := h
  obtain ⟨b, e, n, c⟩ := K.ok k _ _ e2 e1
  cases e
  exact ⟨n, d, c⟩
theorem Kids.mono {g : G0} {F F' H H' : Hp} {xs : List V} {ks : List Kid} (K : Kids g F H xs ks) (e : Le F F') (h : ∀ a, KidA xs ks a → F' a = none ∧ H' a = H a) : Kids g F' H' xs ks :=
  ⟨K.len, fun k v kd e1 e2 => by
    have q := K.ok k v kd e1 e2
    cases kd with
    | fz d => exact Rep.mono e q
    | ow d =>
      obtain ⟨a, rfl, n, c⟩ := q
      obtain ⟨z1, z2⟩ := h a ⟨k, d, e2, e1⟩
      exact ⟨a, rfl, z1, c.mono e z2⟩, K.inj⟩

/-! ### a frame's slots -/
inductive Slot where
  | emp | val (d : D)
  /-- an object of this frame's own; one of the caller's that may change; while a loop walks it: read alone -/
  | own (d : D) | io (d : D) | lock (io : Bool) (d : D)
  /-- a caught exception: its class, its fields -/
  | exc (c : Nat) (ns : List Str) (vs : List D)
  /-- a shell (ls: a list); another name of slot j's kid k -/
  | sh (ls : Bool) (ks : List Kid) | al (j k : Nat)
deriving Inhabited
inductive AV where
  | v (d : D) | s (i : Nat) | n (d : D)
  /-- a new shell; slot i's kid k -/
  | t (ls : Bool) (ks : List Kid) | p (i k : Nat)

/-- at the frame's start: what was frozen, the heap, the addresses of the parameters that may change -/
structure Base where
  F0 : Hp
  H0 : Hp
  /-- may change -/
  A : List Addr
  /-- the parameters among them, by slot -/
  io : List (Option Addr)
  /-- what a loop walks, by slot -/
  lk : Nat → Option Addr := fun _ => none
  /-- the exception that is handled -/
  ex : Option (Addr × Obj) := none

def mineD : Slot → Option D
  | .own d | .io d | .lock _ d => some d
  | _ => none
/-- slot i holds an object of one's own at a; it holds it, or a shell of it -/
def Flat (σ : St) (sl : List Slot) (i : Nat) (a : Addr) : Prop := (∃ s d, sl[i]? = some s ∧ mineD s = some d) ∧ σ[i]? = some (some (.ref a))
def Mine (F : Hp) (σ : St) (sl : List Slot) (i : Nat) (a : Addr) : Prop := Flat σ sl i a ∨ ∃ ls ks q xs, sl[i]? = some (.sh ls ks) ∧ σ[i]? = some (some (.ref q)) ∧ ShellO ls F q xs ∧ KidA xs ks a
def XdAt (g : G0) (F H : Hp) (dd : Addr) (ns : List Str) (vs : List D) : Prop := ∃ fs : List (Str × V), H dd = some (.xd fs) ∧ fs.map (·.1) = ns ∧ Reps g F (fs.map (·.2)) vs

/-- a at slot i is this frame's own; (b) a parameter's -/
def OwnA (B : Base) (i : Nat) (b : Bool) (a : Addr) : Prop := (B.H0 a = none ∨ a ∈ B.A) ∧ (b = true → B.io[i]? = some (some a))
def SlotOk (g : G0) (B : Base) (F H : Hp) (σ : St) (i : Nat) : Slot → Prop
  | .emp => True
  | .val d => ∃ v, σ[i]? = some (some v) ∧ Rep g F v d
  | .own d => ∃ a, σ[i]? = some (some (.ref a)) ∧ F a = none ∧ OwnA B i false a ∧ CellAt g F H a d
  | .io d => ∃ a, σ[i]? = some (some (.ref a)) ∧ F a = none ∧ OwnA B i true a ∧ CellAt g F H a d
  | .lock b d => ∃ a, σ[i]? = some (some (.ref a)) ∧ F a = none ∧ (OwnA B i b a ∧ B.lk i = some a) ∧ CellAt g F H a d
  | .exc c ns vs => ∃ a oe dd, B.ex = some (a, oe) ∧ σ[i]? = some (some (.ref a)) ∧ oe.cls = .ref (g.cA c) ∧ oe.dict = some dd ∧ XdAt g F H dd ns vs
  | .sh ls ks => ∃ q xs, σ[i]? = some (some (.ref q)) ∧ ShellO ls F q xs ∧ Kids g F H xs ks ∧ ∀ a, KidA xs ks a → B.H0 a = none ∨ a ∈ B.A
  | .al _ _ => True

def Als (F : Hp) (σ : St) (sl : List Slot) : Prop := ∀ (i j k : Nat) (ls : Bool) (ks : List Kid), sl[i]? = some (.al j k) → sl[j]? = some (.sh ls ks) → ∃ q xs v, σ[j]? = some (some (.ref q)) ∧ ShellO ls F q xs ∧ xs[k]? = some v ∧ σ[i]? = some (some v)
structure Good (g : G0) (B : Base) (F H : Hp) (σ : St) (sl : List Slot) : Prop where
  sub : Le F H
  ext : Le B.F0 F
  new : ∀ a o, F a = some o → B.F0 a = none → B.H0 a = none ∨ a ∈ B.A
  keep : ∀ a o, B.H0 a = some o → a ∉ B.A → H a = some o
  live : ∀ a, a ∈ B.A → ∃ o, H a = some o
  slot : ∀ i s, sl[i]? = some s → SlotOk g B F H σ i s
  apart : ∀ i j a b, i ≠ j → Mine F σ sl i a → Mine F σ sl j b → a ≠ b
  len : σ.length = sl.length
  als : Als F σ sl

theorem Good.alsLe {g : G0} {B : Base} {F F' H : Hp} {σ : St} {sl : List Slot} (G : Good g B F H σ sl) (le : Le F F') : Als F' σ sl :=
  fun i j k ls ks e1 e2 => by obtain ⟨q, xs, v, h1, h2, h3⟩ := G.als i j k ls ks e1 e2; exact ⟨q, xs, v, h1, h2.le le, h3⟩
theorem Good.mine {g : G0} {B : Base} {F H : Hp} {σ : St} {sl : List Slot} (G : Good g B F H σ sl) {i : Nat} {a : Addr} (m : Mine F σ sl i a) : F a = none ∧ ∃ d, CellAt g F H a d := by
  rcases m with m | ⟨ls, ks, q, xs, e1, e2, e3, e4⟩
  · obtain ⟨⟨s, d, h1, h2⟩, h3⟩ := m
    have q := G.slot i s h1
    cases s with
    | own d' => obtain ⟨b, e, n, _, c⟩ := q; rw [h3] at e; cases e; exact ⟨n, _, c⟩
    | io d' => obtain ⟨b, e, n, _, c⟩ := q; rw [h3] at e; cases e; exact ⟨n, _, c⟩
    | lock b' d' => obtain ⟨b, e, n, _, c⟩ := q; rw [h3] at e; cases e; exact ⟨n, _, c⟩
    | _ => cases h2
  · obtain ⟨q', xs', e5, e6, K, _⟩ := G.slot i _ e1
    rw [e2] at e5; cases e5
    have := ShellO.det e3 e6
    subst this
    exact K.own e4
theorem Good.mineOwn {g : G0} {B : Base} {F H : Hp} {σ : St} {sl : List Slot} (G : Good g B F H σ sl) {i : Nat} {a : Addr} (m : Mine F σ sl i a) : B.H0 a = none ∨ a ∈ B.A := by
  rcases m with m | ⟨ls, ks, q, xs, e1, e2, e3, e4⟩
  · obtain ⟨⟨s, d, h1, h2⟩, h3⟩ := m
    have q := G.slot i s h1
    cases s with
    | own d' => obtain ⟨b, e, n, w, c⟩ := q; rw [h3] at e; cases e; exact w.1
    | io d' => obtain ⟨b, e, n, w, c⟩ := q; rw [h3] at e; cases e; exact w.1
    | lock b' d' => obtain ⟨b, e, n, w, c⟩ := q; rw [h3] at e; cases e; exact w.1.1
    | _ => cases h2
  · obtain ⟨q', xs', e5, e6, K, w⟩ := G.slot i _ e1
    rw [e2] at e5; cases e5
    have := ShellO.det e3 e6
    subst this
    exact w a e4
/-- in a larger frozen heap nothing more is one's own -/
theorem Good.mineBack {g : G0} {B : Base} {F F' H : Hp} {σ : St} {sl : List Slot} (G : Good g B F H σ sl) (le : Le F F') {i : Nat} {a : Addr} (m : Mine F' σ sl i a) : Mine F σ sl i a := by
  rcases m with m | ⟨ls, ks, q, xs, e1, e2, e3, e4⟩
  · exact .inl m
  · obtain ⟨q', xs', e5, e6, K, w⟩ := G.slot i _ e1
    rw [e2] at e5; cases e5
    have := ShellO.det e3 (e6.le le)
    subst this
    exact .inr ⟨ls, ks, q, xs, e1, e2, e6, e4⟩
theorem Mine.le {F F' : Hp} {σ : St} {sl : List Slot} {i : Nat} {a : Addr} (m : Mine F σ sl i a) (le : Le F F') : Mine F' σ sl i a := by
  rcases m with m | ⟨ls, ks, q, xs, e1, e2, e3, e4⟩
  · exact .inl m
  · exact .inr ⟨ls, ks, q, xs, e1, e2, e3.le le, e4⟩
theorem Good.mineAt {g : G0} {B : Base} {F H : Hp} {σ : St} {sl : List Slot} (G : Good g B F H σ sl) {i : Nat} {s : Slot} {d : D} (h1 : sl[i]? = some s) (h2 : mineD s = some d) :
    ∃ a, Mine F σ sl i a ∧ σ[i]? = some (some (.ref a)) ∧ F a = none ∧ CellAt g F H a d := by
  have q := G.slot i s h1
  cases s with
  | own d' => obtain ⟨b, e, n, _, c⟩ := q; cases h2; exact ⟨b, .inl ⟨⟨_, _, h1, rfl⟩, e⟩, e, n, c⟩
  | io d' => obtain ⟨b, e, n, _, c⟩ := q; cases h2; exact ⟨b, .inl ⟨⟨_, _, h1, rfl⟩, e⟩, e, n, c⟩
  | lock b' d' => obtain ⟨b, e, n, _, c⟩ := q; cases h2; exact ⟨b, .inl ⟨⟨_, _, h1, rfl⟩, e⟩, e, n, c⟩
  | _ => cases h2

/-- new things are laid, nothing changes -/
structure Ext (F H F' H' : Hp) : Prop where
  f : Le F F'
  h : Le H H'
  sub : Le F' H'
  fresh : ∀ a o, F' a = some o → F a = none → H a = none
theorem Ext.refl {F H : Hp} (e : Le F H) : Ext F H F H := ⟨.refl _, .refl _, e, fun a o h n => by rw [h] at n; cases n⟩
theorem Ext.non {F H F' H' : Hp} (e : Ext F H F' H') {a : Addr} {o : HO} (h : H a = some o) (n : F a = .none) : F' a = .none := by
  cases q : F' a with
  | none => rfl
  | some u => have z := e.fresh a u q n; rw [h] at z; cases z
theorem Ext.trans {F H F1 H1 F2 H2 : Hp} (a : Ext F H F1 H1) (b : Ext F1 H1 F2 H2) : Ext F H F2 H2 :=
  ⟨a.f.trans b.f, a.h.trans b.h, b.sub, fun x o h n => by
    cases q : F1 x with
    | some u => exact a.fresh x u q n
    | none =>
      have z := b.fresh x o h q
      cases r : H x with
      | none => rfl
      | some u => have y := a.h x u r; rw [z] at y; cases y⟩
/-- a new object that stays one's own; a new object that is frozen at once -/
theorem Ext.laid {F H : Hp} {p : Addr} {o : HO} (e : Le F H) (n : H p = none) : Ext F H F (upd H p o) :=
  ⟨.refl _, fun a u h => by rw [upd_ne (ne_of_none h n)]; exact h, fun a u h => by rw [upd_ne (ne_of_none (e a u h) n)]; exact e a u h, fun a u h n' => by rw [h] at n'; cases n'⟩
theorem le_none {F H : Hp} (e : Le F H) {a : Addr} (n : H a = none) : F a = none := by
  cases q : F a with
  | none => rfl
  | some o => have z := e a o q; rw [n] at z; cases z
theorem Ext.frozen {F H : Hp} {p : Addr} {o : HO} (e : Le F H) (n : H p = none) : Ext F H (upd F p o) (upd H p o) := by
  have nF := le_none e n
  refine ⟨fun a u h => by rw [upd_ne (ne_of_none h nF)]; exact h, fun a u h => by rw [upd_ne (ne_of_none h n)]; exact h, fun a u h => ?_, fun a u h n' => ?_⟩
  · by_cases q : a = p
    · subst q; rw [upd_same] at h ⊢; exact h
    · rw [upd_ne q] at h ⊢; exact e a u h
  · by_cases q : a = p
    · subst q; exact n
    · rw [upd_ne q] at h; rw [h] at n'; cases n'

section good
variable {g : G0} {B : Base} {F H F' H' : Hp} {σ : St} {sl : List Slot}
theorem SlotOk.ext {i : Nat} {s : Slot} (q : SlotOk g B F H σ i s) (e : Ext F H F' H') : SlotOk g B F' H' σ i s := by
  cases s with
  | emp => trivial
  | val d => obtain ⟨v, h, r⟩ := q; exact ⟨v, h, r.mono e.f⟩
  | own d =>
    obtain ⟨a, h, n, f, c⟩ := q
    obtain ⟨o, ho, _⟩ := c.obj'
    exact ⟨a, h, e.non ho n, f, c.mono e.f ((e.h _ _ ho).trans ho.symm)⟩
  | io d =>
    obtain ⟨a, h, n, f, c⟩ := q
    obtain ⟨o, ho, _⟩ := c.obj'
    exact ⟨a, h, e.non ho n, f, c.mono e.f ((e.h _ _ ho).trans ho.symm)⟩
  | lock b d =>
    obtain ⟨a, h, n, f, c⟩ := q
    obtain ⟨o, ho, _⟩ := c.obj'
    exact ⟨a, h, e.non ho n, f, c.mono e.f ((e.h _ _ ho).trans ho.symm)⟩
  | exc c ns vs => obtain ⟨a, oe, dd, h1, h2, h3, h4, fs, h5, h6, h7⟩ := q; exact ⟨a, oe, dd, h1, h2, h3, h4, fs, e.h _ _ h5, h6, h7.mono e.f⟩
  | sh ls ks =>
    obtain ⟨q, xs, h1, h2, K, w⟩ := q
    refine ⟨q, xs, h1, h2.le e.f, K.mono e.f fun a ka => ?_, w⟩
    obtain ⟨n, d, c⟩ := K.own ka
    obtain ⟨o, ho, _⟩ := c.obj'
    exact ⟨e.non ho n, (e.h _ _ ho).trans ho.symm⟩
  | al j k => trivial
theorem Good.ext' (G : Good g B F H σ sl) (e : Ext F H F' H') : Good g B F' H' σ sl where
  sub := e.sub
  ext := G.ext.trans e.f
  new := fun a o h n => by
    cases q : F a with
    | some u => exact G.new a u q n
    | none =>
      have z := e.fresh a o h q
      cases r : B.H0 a with
      | none => exact .inl rfl
      | some u =>
        by_cases ha : a ∈ B.A
        · obtain ⟨w, hw⟩ := G.live a ha
          rw [z] at hw; cases hw
        · have y := G.keep a u r ha
          rw [z] at y; cases y
  keep := fun a o h n => e.h _ _ (G.keep a o h n)
  live := fun a h => let ⟨o, q⟩ := G.live a h; ⟨o, e.h _ _ q⟩
  slot := fun i s h => (G.slot i s h).ext e
  apart := fun i j a b ne m1 m2 => G.apart i j a b ne (G.mineBack e.f m1) (G.mineBack e.f m2)
  len := G.len
  als := G.alsLe e.f
end good

/-- what an expression's value is -/
def AVOk (g : G0) (B : Base) (F H : Hp) (σ : St) (sl : List Slot) (v : V) : AV → Prop
  | .v d => Rep g F v d
  | .s i => ∃ a, v = .ref a ∧ σ[i]? = some (some (.ref a))
  | .n d => ∃ q, v = .ref q ∧ F q = none ∧ B.H0 q = none ∧ (∀ i b, Mine F σ sl i b → b ≠ q) ∧ CellAt g F H q d
  | .t ls ks => ∃ q xs, v = .ref q ∧ ShellO ls F q xs ∧ B.H0 q = none ∧ Kids g F H xs ks ∧ ∀ a, KidA xs ks a → B.H0 a = none ∧ ∀ i b, Mine F σ sl i b → b ≠ a
  | .p i k => ∃ ls q xs, σ[i]? = some (some (.ref q)) ∧ ShellO ls F q xs ∧ xs[k]? = some v

/-- the content of a value -/
def cont (sl : List Slot) : AV → Option D
  | .v d => some d
  | .n d => some d
  | .s i => match sl[i]? with
    | some s => mineD s
    | none => none
  | .p i k => match sl[i]? with
    | some (.sh _ ks) => (ks[k]?).map kidD
    | _ => none
  | .t _ _ => none
/-- a value's content, in the heap -/
def Cont (g : G0) (F H : Hp) (v : V) (d : D) : Prop := Rep g F v d ∨ ∃ a, v = .ref a ∧ F a = none ∧ CellAt g F H a d

section cnt
variable {g : G0} {B : Base} {F H : Hp} {σ : St} {sl : List Slot} {v : V} {a : AV} {d : D}
theorem AVOk.cont (G : Good g B F H σ sl) (h : AVOk g B F H σ sl v a) (e : cont sl a = some d) : Cont g F H v d := by
  cases a with
  | v d' => cases e; exact .inl h
  | n d' => cases e; obtain ⟨q, rfl, n, _, _, c⟩ := h; exact .inr ⟨q, rfl, n, c⟩
  | t ls ks => cases e
  | s i =>
    obtain ⟨a, rfl, m⟩ := h
    have e' : (match sl[i]? with | some s => mineD s | none => none) = some d := e
    cases q : sl[i]? with
    | none => rw [q] at e'; cases e'
    | some s =>
      rw [q] at e'
      obtain ⟨b, m', h', n', c'⟩ := G.mineAt q e'
      have z := m
      rw [h'] at z
      cases z
      exact .inr ⟨_, rfl, n', c'⟩
  | p i k =>
    obtain ⟨ls, q, xs, h1, h2, h3⟩ := h
    have e' : (match sl[i]? with | some (.sh _ ks) => (ks[k]?).map kidD | _ => none) = some d := e
    cases z : sl[i]? with
    | none => rw [z] at e'; cases e'
    | some s =>
      rw [z] at e'
      cases s with
      | sh ls' ks =>
        obtain ⟨kd, e1, e2⟩ := Option.map_eq_some_iff.mp e'
        obtain ⟨q', xs', h4, h5, K, _⟩ := G.slot i _ z
        rw [h1] at h4; cases h4
        have : xs = xs' := by
          unfold ShellO at h2 h5
          rw [h2] at h5
          cases ls <;> cases ls' <;> simp at h5 <;> exact h5
        subst this
        have w := K.ok k v kd h3 e1
        subst e2
        cases kd with
        | fz d => exact .inl w
        | ow d => obtain ⟨b, e, n, c⟩ := w; exact .inr ⟨b, e, n, c⟩
      | _ => cases e'
theorem Cont.lst {ds : List D} (s : Le F H) (c : Cont g F H v (.lst ds)) : ∃ a xs, v = .ref a ∧ H a = some (.lst xs) ∧ Reps g F xs ds := by
  rcases c with r | ⟨a, rfl, _, c⟩
  · cases r with
    | lst h r => exact ⟨_, _, rfl, s _ _ h, r⟩
  · cases c with
    | lst h r => exact ⟨_, _, rfl, h, r⟩
theorem Cont.kst {ds : List D} (s : Le F H) (c : Cont g F H v (.kst ds)) : ∃ a xs, v = .ref a ∧ SqL g.K H a xs ∧ Reps g F xs ds := by
  rcases c with r | ⟨a, rfl, _, c⟩
  · cases r with
    | kst h r => exact ⟨_, _, rfl, le_l s h, r⟩
  · cases c
theorem Cont.tup {ds : List D} (s : Le F H) (c : Cont g F H v (.tup ds)) : ∃ a xs, v = .ref a ∧ SqT g.K H a xs ∧ Reps g F xs ds := by
  rcases c with r | ⟨a, rfl, _, c⟩
  · cases r with
    | tup h r => exact ⟨_, _, rfl, le_t s h, r⟩
  · cases c
theorem Cont.int {i : Int} (c : Cont g F H v (.int i)) : v = .int i := by
  rcases c with r | ⟨a, rfl, _, c⟩
  · cases r; rfl
  · cases c
theorem Cont.bl {b : Bool} (c : Cont g F H v (.bl b)) : v = .bl b := by
  rcases c with r | ⟨a, rfl, _, c⟩
  · cases r; rfl
  · cases c
theorem Cont.str {b : Str} (c : Cont g F H v (.str b)) : v = .str b := by
  rcases c with r | ⟨a, rfl, _, c⟩
  · cases r; rfl
  · cases c
theorem Cont.non (c : Cont g F H v .non) : v = .non := by
  rcases c with r | ⟨a, rfl, _, c⟩
  · cases r; rfl
  · cases c
end cnt

/-! ### what expressions, tests, statements do -/
inductive ER where
  | ok (a : AV) (sl : List Slot) | err (c : Nat) (ns : List Str) (vs : List D) (sl : List Slot) | bad
inductive TR where
  | ok (b : Bool) (sl : List Slot) | err (c : Nat) (ns : List Str) (vs : List D) (sl : List Slot) | bad
inductive LR where
  | ok (as : List AV) (sl : List Slot) | err (c : Nat) (ns : List Str) (vs : List D) (sl : List Slot) | bad
inductive SR where
  | nx (sl : List Slot) | brk (sl : List Slot) | cnt (sl : List Slot) | ret (a : AV) (sl : List Slot)
  /-- a shell of what was one's own is told -/
  | retM (ls : Bool) (ks : List Kid) (sl : List Slot) | err (c : Nat) (ns : List Str) (vs : List D) (sl : List Slot) | bad
abbrev EM := List Slot → ER
abbrev TM := List Slot → TR
abbrev LM := List Slot → LR
abbrev SM := List Slot → SR

def MvOk (g : G0) (B : Base) (F H : Hp) (σ : St) (sl : List Slot) (v : V) (ls : Bool) (ks : List Kid) : Prop :=
  ∃ q xs, v = .ref q ∧ ShellO ls F q xs ∧ B.H0 q = none ∧ Kids g F H xs ks ∧ ∀ a, KidA xs ks a → (B.H0 a = none ∨ a ∈ B.A) ∧ ∀ i b, Mine F σ sl i b → b ≠ a
section post
variable (g : G0) (B : Base) (W : WX)
def PostX (F : Hp) (σ : St) (c : Nat) (ns : List Str) (vs : List D) (sl : List Slot) : Prop :=
  ∀ dd F' H', Le F F' → Good g B F' H' σ sl → XdAt g F' H' dd ns vs → W (.ref (g.cA c)) (some dd) σ H'
def PostE (F : Hp) (σ : St) (Q : VK) : ER → Prop
  | .ok a sl => ∀ v F' H', Le F F' → Good g B F' H' σ sl → AVOk g B F' H' σ sl v a → Q v H'
  | .err c ns vs sl => PostX g B W F σ c ns vs sl
  | .bad => False
def PostT (F : Hp) (σ : St) (Q : Bool → Hp → Prop) : TR → Prop
  | .ok b sl => ∀ F' H', Le F F' → Good g B F' H' σ sl → Q b H'
  | .err c ns vs sl => PostX g B W F σ c ns vs sl
  | .bad => False
inductive AVs (F H : Hp) (σ : St) (sl : List Slot) : List V → List AV → Prop
  | nil : AVs F H σ sl [] []
  | cons {v : V} {a : AV} {vs : List V} {as : List AV} : AVOk g B F H σ sl v a → AVs F H σ sl vs as → AVs F H σ sl (v :: vs) (a :: as)
def PostL (F : Hp) (σ : St) (Q : List V → Hp → Prop) : LR → Prop
  | .ok as sl => ∀ vs F' H', Le F F' → Good g B F' H' σ sl → AVs g B F' H' σ sl vs as → Q vs H'
  | .err c ns vs sl => PostX g B W F σ c ns vs sl
  | .bad => False
def PostS (F : Hp) (D : Ends) : SR → Prop
  | .nx sl => ∀ σ F' H', Le F F' → Good g B F' H' σ sl → D.nx σ H'
  | .brk sl => ∀ σ F' H', Le F F' → Good g B F' H' σ sl → D.bk σ H'
  | .cnt sl => ∀ σ F' H', Le F F' → Good g B F' H' σ sl → D.ct σ H'
  | .ret a sl => ∀ v σ F' H', Le F F' → Good g B F' H' σ sl → AVOk g B F' H' σ sl v a → D.rt v H'
  | .retM ls ks sl => ∀ v σ F' H', Le F F' → Good g B F' H' σ sl → MvOk g B F' H' σ sl v ls ks → D.rt v H'
  | .err c ns vs sl => ∀ σ, PostX g B W F σ c ns vs sl
  | .bad => False
def tE (m : EM) : TE := fun σ H Q => ∃ F sl, Good g B F H σ sl ∧ PostE g B W F σ Q (m sl)
def tT (m : TM) : TT := fun σ H Q => ∃ F sl, Good g B F H σ sl ∧ PostT g B W F σ Q (m sl)
def tL (m : LM) : TA := fun σ H Q => ∃ F sl, Good g B F H σ sl ∧ PostL g B W F σ Q (m sl)
def tS (m : SM) : TS := fun D σ H => ∃ F sl, Good g B F H σ sl ∧ PostS g B W F D (m sl)
end post

/-- the base tells the exception that X handles -/
def BaseOk (X : Cx) (B : Base) : Prop := ∀ p, B.ex = some p → X.calm = false ∧ X.pn.head? = some p
structure Tk (X : Cx) (B : Base) (W : WX) : Prop where
  b : BaseOk X B
  t : Takes X W
abbrev gx (X : Cx) (cA : Nat → Addr) : G0 := ⟨X.K, cA⟩
structure SE (cA : Nat → Addr) (X : Cx) (m : EM) (e : Expr) : Prop where
  run : ∀ (B : Base) (W : WX), Tk X B W → PE X e (tE (gx X cA) B W m)
structure ST (cA : Nat → Addr) (X : Cx) (m : TM) (e : Expr) : Prop where
  run : ∀ (B : Base) (W : WX), Tk X B W → PT X e (tT (gx X cA) B W m)
structure STW (cA : Nat → Addr) (X : Cx) (m : TM) (e : Expr) : Prop where
  run : ∀ (B : Base) (W : WX), Tk X B W → PW X e (tT (gx X cA) B W m)
structure SL (cA : Nat → Addr) (X : Cx) (m : LM) (es : List Expr) : Prop where
  run : ∀ (B : Base) (W : WX), Tk X B W → PA X es (tL (gx X cA) B W m)
structure SS (cA : Nat → Addr) (X : Cx) (m : SM) (s : Stmt) : Prop where
  run : ∀ (B : Base) (W : WX), Tk X B W → PS X s (tS (gx X cA) B W m)
structure SSs (cA : Nat → Addr) (X : Cx) (m : SM) (s : List Stmt) : Prop where
  run : ∀ (B : Base) (W : WX), Tk X B W → PSs X s (tS (gx X cA) B W m)

theorem _root_.L2.PE.of {X : Cx} {e : Expr} {t t' : TE} (h : PE X e t) (i : ∀ σ H Q, t' σ H Q → t σ H Q) : PE X e t' := ⟨fun p s σ H Q I w => h.run p s σ H Q I (i _ _ _ w)⟩
theorem _root_.L2.PT.of {X : Cx} {e : Expr} {t t' : TT} (h : PT X e t) (i : ∀ σ H Q, t' σ H Q → t σ H Q) : PT X e t' := ⟨fun p s σ H Q I w => h.run p s σ H Q I (i _ _ _ w)⟩
theorem _root_.L2.PW.of {X : Cx} {e : Expr} {t t' : TT} (h : PW X e t) (i : ∀ σ H Q, t' σ H Q → t σ H Q) : PW X e t' := ⟨fun u p s σ H Q I w => h.run u p s σ H Q I (i _ _ _ w)⟩
theorem _root_.L2.PA.of {X : Cx} {e : List Expr} {t t' : TA} (h : PA X e t) (i : ∀ σ H Q, t' σ H Q → t σ H Q) : PA X e t' := ⟨fun u p s σ H Q I w => h.run u p s σ H Q I (i _ _ _ w)⟩
theorem _root_.L2.PS.of {X : Cx} {e : Stmt} {t t' : TS} (h : PS X e t) (i : ∀ D σ H, t' D σ H → t D σ H) : PS X e t' := ⟨fun p s σ H D I w => h.run p s σ H D I (i _ _ _ w)⟩
theorem _root_.L2.PSs.of {X : Cx} {e : List Stmt} {t t' : TS} (h : PSs X e t) (i : ∀ D σ H, t' D σ H → t D σ H) : PSs X e t' := ⟨fun p s σ H D I w => h.run p s σ H D I (i _ _ _ w)⟩

theorem PostX.le {g : G0} {B : Base} {W : WX} {F F1 : Hp} {σ : St} {c : Nat} {ns : List Str} {vs : List D} {sl : List Slot} (h : PostX g B W F σ c ns vs sl) (e : Le F F1) : PostX g B W F1 σ c ns vs sl :=
  fun dd F' H' l G x => h dd F' H' (e.trans l) G x
theorem PostE.le {g : G0} {B : Base} {W : WX} {F F1 : Hp} {σ : St} {Q : VK} {r : ER} (h : PostE g B W F σ Q r) (e : Le F F1) : PostE g B W F1 σ Q r := by
  cases r with
  | ok a sl => exact fun v F' H' l G x => h v F' H' (e.trans l) G x
  | err c ns vs sl => exact PostX.le h e
  | bad => exact h
theorem PostT.le {g : G0} {B : Base} {W : WX} {F F1 : Hp} {σ : St} {Q : Bool → Hp → Prop} {r : TR} (h : PostT g B W F σ Q r) (e : Le F F1) : PostT g B W F1 σ Q r := by
  cases r with
  | ok a sl => exact fun F' H' l G => h F' H' (e.trans l) G
  | err c ns vs sl => exact PostX.le h e
  | bad => exact h
theorem PostL.le {g : G0} {B : Base} {W : WX} {F F1 : Hp} {σ : St} {Q : List V → Hp → Prop} {r : LR} (h : PostL g B W F σ Q r) (e : Le F F1) : PostL g B W F1 σ Q r := by
  cases r with
  | ok a sl => exact fun vs F' H' l G x => h vs F' H' (e.trans l) G x
  | err c ns vs sl => exact PostX.le h e
  | bad => exact h
theorem PostS.le {g : G0} {B : Base} {W : WX} {F F1 : Hp} {D : Ends} {r : SR} (h : PostS g B W F D r) (e : Le F F1) : PostS g B W F1 D r := by
  cases r with
  | nx sl => exact fun σ F' H' l G => h σ F' H' (e.trans l) G
  | brk sl => exact fun σ F' H' l G => h σ F' H' (e.trans l) G
  | cnt sl => exact fun σ F' H' l G => h σ F' H' (e.trans l) G
  | ret a sl => exact fun v σ F' H' l G x => h v σ F' H' (e.trans l) G x
  | retM ls ks sl => exact fun v σ F' H' l G x => h v σ F' H' (e.trans l) G x
  | err c ns vs sl => exact fun σ => PostX.le (h σ) e
  | bad => exact h
end Za
end
section
set_option Elab.async false
set_option linter.all false
set_option maxRecDepth 100000
set_option maxHeartbeats 2000000
namespace Za
open PySem PySem.Spec PyProof.Rows L2

section basics
variable {g : G0} {B : Base} {F F' H H' : Hp} {σ : St} {sl : List Slot} {v : V} {a : AV} {d : D}
theorem Good.freshH0 (G : Good g B F H σ sl) {q : Addr} (n : H q = none) : B.H0 q = none := by
  cases r : B.H0 q with
  | none => rfl
  | some o =>
    by_cases ha : q ∈ B.A
    · obtain ⟨w, hw⟩ := G.live q ha
      rw [n] at hw; cases hw
    · have y := G.keep q o r ha
      rw [n] at y; cases y
theorem Good.mineNe (G : Good g B F H σ sl) {q : Addr} (n : H q = none) : ∀ i b, Mine F σ sl i b → b ≠ q := fun i b m e => by
  obtain ⟨_, d, c⟩ := G.mine m
  obtain ⟨o, ho, _⟩ := c.obj'
  rw [e, n] at ho; cases ho
/-- what is one's own and known to no slot may be frozen -/
theorem Good.freeze (G : Good g B F H σ sl) {q : Addr} {o : HO} (h : H q = some o) (n0 : B.H0 q = none ∨ q ∈ B.A) (nF : F q = none) (nm : ∀ i b, Mine F σ sl i b → b ≠ q) : Good g B (upd F q o) H σ sl where
  sub := fun a u e => by
    by_cases z : a = q
    · subst z; rw [upd_same] at e; cases e; exact h
    · rw [upd_ne z] at e; exact G.sub a u e
  ext := fun a u e => by
    have e' := G.ext a u e
    rw [upd_ne (ne_of_none e' nF)]; exact e'
  new := fun a u e n => by
    by_cases z : a = q
    · subst z; exact n0
    · rw [upd_ne z] at e; exact G.new a u e n
  keep := G.keep
  live := G.live
  slot := fun i s e => by
    have le : Le F (upd F q o) := fun a u e => by rw [upd_ne (ne_of_none e nF)]; exact e
    have t := G.slot i s e
    cases s with
    | emp => trivial
    | val d => obtain ⟨v, h1, r⟩ := t; exact ⟨v, h1, r.mono le⟩
    | own d => obtain ⟨a, h1, n, f, c⟩ := t; exact ⟨a, h1, by rw [upd_ne (nm i a (.inl ⟨⟨_, _, e, rfl⟩, h1⟩))]; exact n, f, c.mono le rfl⟩
    | io d => obtain ⟨a, h1, n, f, c⟩ := t; exact ⟨a, h1, by rw [upd_ne (nm i a (.inl ⟨⟨_, _, e, rfl⟩, h1⟩))]; exact n, f, c.mono le rfl⟩
    | lock b d => obtain ⟨a, h1, n, f, c⟩ := t; exact ⟨a, h1, by rw [upd_ne (nm i a (.inl ⟨⟨_, _, e, rfl⟩, h1⟩))]; exact n, f, c.mono le rfl⟩
    | exc c ns vs => obtain ⟨a, oe, dd, h1, h2, h3, h4, fs, h5, h6, h7⟩ := t; exact ⟨a, oe, dd, h1, h2, h3, h4, fs, h5, h6, h7.mono le⟩
    | sh ls ks =>
      obtain ⟨q', xs, h1, h2, K, w⟩ := t
      exact ⟨q', xs, h1, h2.le le, K.mono le fun a ka => ⟨by rw [upd_ne (nm i a (.inr ⟨ls, ks, q', xs, e, h1, h2, ka⟩))]; exact (K.own ka).1, rfl⟩, w⟩
    | al j k => trivial
  apart := fun i j a b ne m1 m2 => by
    have le : Le F (upd F q o) := fun a u e => by rw [upd_ne (ne_of_none e nF)]; exact e
    exact G.apart i j a b ne (G.mineBack le m1) (G.mineBack le m2)
  len := G.len
  als := G.alsLe (fun a u e => by rw [upd_ne (ne_of_none e nF)]; exact e)
def frz : AV → AV
  | .n d => .v d
  | .t ls ks => .v (shellD ls ks)
  | a => a
theorem reps_of {g : G0} {F : Hp} : ∀ {xs : List V} {ds : List D}, xs.length = ds.length → (∀ (k : Nat) (v : V) (d : D), xs[k]? = some v → ds[k]? = some d → Rep g F v d) → Reps g F xs ds
  | [], [], _, _ => .nil
  | [], _ :: _, h, _ => by cases h
  | _ :: _, [], h, _ => by cases h
  | x :: xs, d :: ds, h, q => .cons (q 0 x d rfl rfl) (reps_of (by simpa using h) fun k v d h1 h2 => q (k + 1) v d (by simpa using h1) (by simpa using h2))
/-- a new shell's kids are frozen -/
theorem Good.frzKids (G : Good g B F H σ sl) {xs : List V} {ks : List Kid} (K : Kids g F H xs ks) (nm : ∀ a, KidA xs ks a → B.H0 a = none ∧ ∀ i b, Mine F σ sl i b → b ≠ a) :
    ∀ n, ∃ F', Le F F' ∧ Good g B F' H σ sl ∧ (∀ (k : Nat) (v : V) (kd : Kid), k < n → xs[k]? = some v → ks[k]? = some kd → Rep g F' v (kidD kd)) ∧ ∀ (k : Nat) (d : D) (a : Addr), n ≤ k → ks[k]? = some (.ow d) → xs[k]? = some (.ref a) → F' a = none := by
  intro n
  induction n with
  | zero => exact ⟨F, .refl _, G, fun k v kd h => absurd h (Nat.not_lt_zero _), fun k d a _ h1 h2 => (K.own ⟨k, d, h1, h2⟩).1⟩
  | succ n ih =>
    obtain ⟨F1, le1, G1, r1, n1⟩ := ih
    cases e : ks[n]? with
    | none =>
      refine ⟨F1, le1, G1, fun k v kd h h1 h2 => ?_, fun k d a h h1 h2 => n1 k d a (by omega) h1 h2⟩
      by_cases hk : k < n
      · exact r1 k v kd hk h1 h2
      · have : k = n := by omega
        subst this
        rw [e] at h2; cases h2
    | some kd0 =>
      cases kd0 with
      | fz d0 =>
        refine ⟨F1, le1, G1, fun k v kd h h1 h2 => ?_, fun k d a h h1 h2 => n1 k d a (by omega) h1 h2⟩
        by_cases hk : k < n
        · exact r1 k v kd hk h1 h2
        · have : k = n := by omega
          subst this
          rw [e] at h2; cases h2
          exact Rep.mono le1 (K.ok k v _ h1 e)
      | ow d0 =>
        obtain ⟨v, hv, a, ea, nF, c⟩ := K.at_ e
        subst ea
        obtain ⟨o, ho, _⟩ := c.obj'
        have nF1 : F1 a = none := n1 n d0 a (Nat.le_refl _) e hv
        obtain ⟨z1, z2⟩ := nm a ⟨n, d0, e, hv⟩
        have le2 : Le F1 (upd F1 a o) := fun b u h => by rw [upd_ne (ne_of_none h nF1)]; exact h
        refine ⟨upd F1 a o, le1.trans le2, G1.freeze ho (.inl z1) nF1 (fun i b m => z2 i b (G.mineBack le1 m)), fun k v kd h h1 h2 => ?_, fun k d b h h1 h2 => ?_⟩
        · by_cases hk : k < n
          · exact (r1 k v kd hk h1 h2).mono le2
          · have : k = n := by omega
            subst this
            rw [e] at h2; cases h2
            rw [hv] at h1; cases h1
            exact c.rep (le1.trans le2) (by rw [upd_same, ho])
        · have nb : b ≠ a := fun z => by
            subst z
            have := K.inj n k d0 d b e h1 hv h2
            omega
          rw [upd_ne nb]
          exact n1 k d b (by omega) h1 h2
theorem AVOk.frz (G : Good g B F H σ sl) (h : AVOk g B F H σ sl v a) : ∃ F', Le F F' ∧ Good g B F' H σ sl ∧ AVOk g B F' H σ sl v (frz a) := by
  cases a with
  | v d => exact ⟨F, .refl _, G, h⟩
  | s i => exact ⟨F, .refl _, G, h⟩
  | p i k => exact ⟨F, .refl _, G, h⟩
  | n d =>
    obtain ⟨q, rfl, n, n0, nm, c⟩ := h
    obtain ⟨o, ho, _⟩ := c.obj'
    have le : Le F (upd F q o) := fun a u e => by rw [upd_ne (ne_of_none e n)]; exact e
    exact ⟨upd F q o, le, G.freeze ho (.inl n0) n nm, c.rep le (by rw [upd_same, ho])⟩
  | t ls ks =>
    obtain ⟨q, xs, rfl, h1, _, K, nm⟩ := h
    obtain ⟨F', le, G', r, _⟩ := G.frzKids K nm ks.length
    have rr : Reps g F' xs (ks.map kidD) := reps_of (by rw [List.length_map]; exact K.len) fun k v d e1 e2 => by
      rw [List.getElem?_map] at e2
      obtain ⟨kd, e3, rfl⟩ := Option.map_eq_some_iff.mp e2
      exact r k v kd (List.getElem?_eq_some_iff.mp e3).1 e1 e3
    refine ⟨F', le, G', ?_⟩
    have h1' := h1.le le
    unfold ShellO at h1'
    show Rep g F' (.ref q) (shellD ls ks)
    cases ls with
    | true => exact .lst (by simpa using h1') rr
    | false => exact .tup (SqT.of (by simpa using h1')) rr
def stab : AV → Bool
  | .n _ => false
  | .t _ _ => false
  | _ => true
theorem AVOk.le {sl' : List Slot} (h : AVOk g B F H σ sl v a) (e : Le F F') (s : stab a = true) : AVOk g B F' H' σ sl' v a := by
  cases a with
  | v d => exact Rep.mono e h
  | s i => exact h
  | p i k => obtain ⟨ls, q, xs, h1, h2, h3⟩ := h; exact ⟨ls, q, xs, h1, h2.le e, h3⟩
  | n d => cases s
  | t ls ks => cases s
theorem stab_frz (a : AV) : stab (frz a) = true := by cases a <;> rfl
end basics

/-! ### expressions -/
def eB (m : EM) (k : AV → EM) : EM := fun sl => match m sl with
  | .ok a sl' => k a sl'
  | .err c ns vs sl' => .err c ns vs sl'
  | .bad => .bad
def eV (m : EM) : EM := fun sl => match m sl with
  | .ok a sl' => .ok (frz a) sl'
  | .err c ns vs sl' => .err c ns vs sl'
  | .bad => .bad
inductive RK where
  | val (d : D) | new (d : D)
def retR (r : Option RK) (sl : List Slot) : ER := match r with
  | some (.val d) => .ok (.v d) sl
  | some (.new d) => .ok (.n d) sl
  | none => .bad
def PostR (g : G0) (F H : Hp) (Q : VK) : RK → Prop
  | .val d => ∀ v F' H', Ext F H F' H' → Rep g F' v d → Q v H'
  | .new d => ∀ q F' H', Ext F H F' H' → H q = none → F' q = none → CellAt g F' H' q d → Q (.ref q) H'

section rules
variable {cA : Nat → Addr} {X : Cx} {g : G0} {B : Base} {W : WX} {F F' H H' : Hp} {σ : St} {sl sl' : List Slot} {Q : VK}

theorem PostE.frz' {r : ER} (h : PostE g B W F σ Q (match r with | .ok a sl' => .ok (frz a) sl' | .err c ns vs sl' => .err c ns vs sl' | .bad => .bad)) : PostE g B W F σ Q r := by
  cases r with
  | ok a sl' =>
    intro v F' H' le G' x
    obtain ⟨F2, le2, G2, x2⟩ := x.frz G'
    exact h v F2 H' (le.trans le2) G2 x2
  | err c ns vs sl' => exact h
  | bad => exact h
theorem tE_eV {m : EM} (h : tE g B W (eV m) σ H Q) : tE g B W m σ H Q := by
  obtain ⟨F, sl, G, p⟩ := h
  exact ⟨F, sl, G, PostE.frz' p⟩
/-- from a pure result to the frame -/
theorem PostE.ofR (G : Good g B F H σ sl) {r : Option RK} {res : RK} (e : r = some res) (p : PostE g B W F σ Q (retR r sl)) : PostR g F H Q res := by
  subst e
  cases res with
  | val d => exact fun v F' H' x r => p v F' H' x.f (G.ext' x) r
  | new d => exact fun q F' H' x n nF c => p (.ref q) F' H' x.f (G.ext' x) ⟨q, rfl, nF, G.freshH0 n, fun i b m => G.mineNe n i b (G.mineBack x.f m), c⟩
/-- the first of two: its value frozen, kept through the second -/
theorem PostE.bind {m : EM} {k : AV → EM} {R : V → Hp → Prop} (G : Good g B F H σ sl) (p : PostE g B W F σ Q (eB (eV m) k sl))
    (go : ∀ (v : V) (a : AV) (H1 : Hp) (F1 : Hp) (sl1 : List Slot), Le F F1 → stab a = true → Good g B F1 H1 σ sl1 → AVOk g B F1 H1 σ sl1 v a → PostE g B W F1 σ Q (k a sl1) → R v H1) : tE g B W m σ H R := by
  refine ⟨F, sl, G, ?_⟩
  unfold eB eV at p
  cases e : m sl with
  | ok a sl' =>
    rw [e] at p
    intro v F' H' le G' x
    obtain ⟨F2, le2, G2, x2⟩ := x.frz G'
    exact go v (frz a) H' F2 sl' (le.trans le2) (stab_frz a) G2 x2 (PostE.le p (le.trans le2))
  | err c ns vs sl' =>
    rw [e] at p
    exact p
  | bad =>
    rw [e] at p
    exact p.elim

/-! two places -/
def op2 (f : D → D → Option RK) (x y : AV) : EM := fun sl => match cont sl x, cont sl y with
  | some dx, some dy => retR (f dx dy) sl
  | _, _ => .bad
def eOp2 (f : D → D → Option RK) (a b : EM) : EM := eB (eV a) fun x => eB (eV b) fun y => op2 f x y
def OpSim (g : G0) (r : R2) (f : D → D → Option RK) : Prop := ∀ (F H : Hp) (x y : V) (dx dy : D) (res : RK) (Q : VK), Le F H → Cont g F H x dx → Cont g F H y dy → f dx dy = some res → PostR g F H Q res → r x y H Q
theorem op2_out {r : R2} {f : D → D → Option RK} (sim : OpSim g r f) {x y : V} {ax ay : AV} (G : Good g B F H σ sl) (hx : AVOk g B F H σ sl x ax) (hy : AVOk g B F H σ sl y ay) (p : PostE g B W F σ Q (op2 f ax ay sl)) : r x y H Q := by
  unfold op2 at p
  cases e1 : cont sl ax with
  | none => rw [e1] at p; exact p.elim
  | some dx =>
    cases e2 : cont sl ay with
    | none => rw [e1, e2] at p; exact p.elim
    | some dy =>
      rw [e1, e2] at p
      cases e3 : f dx dy with
      | none =>
        have p' : PostE g B W F σ Q (retR (f dx dy) sl) := p
        rw [e3] at p'; exact p'.elim
      | some res => exact sim F H x y dx dy res Q G.sub (hx.cont G e1) (hy.cont G e2) e3 (PostE.ofR G e3 p)
theorem op2_imp {r : R2} {f : D → D → Option RK} {ma mb : EM} (sim : OpSim g r f) (h : tE g B W (eOp2 f ma mb) σ H Q) : tOp r (tE g B W ma) (tE g B W mb) σ H Q := by
  obtain ⟨F, sl, G, p⟩ := h
  refine PostE.bind G p fun v a H1 F1 sl1 l1 sa G1 x1 p1 => ?_
  refine PostE.bind (k := fun y => op2 f a y) G1 p1 fun w b H2 F2 sl2 l2 sb G2 x2 p2 => ?_
  exact op2_out sim G2 (x1.le l2 sa) x2 p2
theorem se_op {op : Operator} {r : R2} {f : D → D → Option RK} {ma mb : EM} {a b : Expr} {pos : Pos} (ho : OpR X (binaryOp op) r) (sim : OpSim (gx X cA) r f) (ha : SE cA X ma a) (hb : SE cA X mb b) : SE cA X (eOp2 f ma mb) (.BinOp a op b pos) :=
  ⟨fun B W tk => (pe_op ho (ha.run B W tk) (hb.run B W tk)).of fun _ _ _ h => op2_imp sim h⟩
theorem se_cmp {op : CmpOp} {r : R2} {f : D → D → Option RK} {ma mb : EM} {a b : Expr} {pos : Pos} (ho : OpR X (compareOp op) r) (sim : OpSim (gx X cA) r f) (ha : SE cA X ma a) (hb : SE cA X mb b) (hm : behindInMarks op b = false) : SE cA X (eOp2 f ma mb) (.Compare a [op] [b] pos) :=
  ⟨fun B W tk => (pe_cmpR ho (ha.run B W tk) (hb.run B W tk) hm).of fun _ _ _ h => op2_imp sim h⟩

/-! tests -/
def tB (m : EM) : TM := fun sl => match m sl with
  | .ok a sl' => match cont sl' a with
    | some (.bl b) => .ok b sl'
    | _ => .bad
  | .err c ns vs sl' => .err c ns vs sl'
  | .bad => .bad
def truth : D → Option Bool
  | .non => some false
  | .bl b => some b
  | .int i => some (i != 0)
  | .lst xs => some (!xs.isEmpty)
  | .tup xs => some (!xs.isEmpty)
  | _ => none
def tTr (m : EM) : TM := fun sl => match m sl with
  | .ok a sl' => match cont sl' a with
    | some d => match truth d with
      | some b => .ok b sl'
      | none => .bad
    | _ => .bad
  | .err c ns vs sl' => .err c ns vs sl'
  | .bad => .bad
theorem tB_imp {m : EM} {Q : Bool → Hp → Prop} (h : tT g B W (tB m) σ H Q) : tE g B W m σ H (fun x H' => ∃ k, x = .bl k ∧ Q k H') := by
  obtain ⟨F, sl, G, p⟩ := h
  refine ⟨F, sl, G, ?_⟩
  unfold tB at p
  cases e : m sl with
  | bad => rw [e] at p; exact p.elim
  | err c ns vs sl' => rw [e] at p; exact p
  | ok a sl' =>
    rw [e] at p
    intro v F' H' le G' x
    cases e2 : cont sl' a with
    | none => simp only [e2] at p; exact p.elim
    | some d =>
      simp only [e2] at p
      cases d with
      | bl b => exact ⟨b, (x.cont G' e2).bl, p F' H' le G'⟩
      | _ => exact p.elim
theorem tTr_imp {m : EM} {Q : Bool → Hp → Prop} (h : tT g B W (tTr m) σ H Q) : tE g B W m σ H (fun x H' => ∃ k, TruV g.K x H' k ∧ Q k H') := by
  obtain ⟨F, sl, G, p⟩ := h
  refine ⟨F, sl, G, ?_⟩
  unfold tTr at p
  cases e : m sl with
  | bad => rw [e] at p; exact p.elim
  | err c ns vs sl' => rw [e] at p; exact p
  | ok a sl' =>
    rw [e] at p
    intro v F' H' le G' x
    cases e2 : cont sl' a with
    | none => simp only [e2] at p; exact p.elim
    | some d =>
      simp only [e2] at p
      have c := x.cont G' e2
      cases d with
      | non => exact ⟨false, by rw [c.non]; rfl, p F' H' le G'⟩
      | bl b => exact ⟨b, by rw [c.bl]; rfl, p F' H' le G'⟩
      | int i => exact ⟨i != 0, by rw [c.int]; rfl, p F' H' le G'⟩
      | str s => exact p.elim
      | lst xs =>
        obtain ⟨a', ys, rfl, hs, r⟩ := c.lst G'.sub
        refine ⟨!xs.isEmpty, .inl ⟨ys, SqL.of hs, ?_⟩, p F' H' le G'⟩
        have l := r.length
        cases xs <;> cases ys <;> simp at l ⊢
      | tup xs =>
        obtain ⟨a', ys, rfl, hs, r⟩ := c.tup G'.sub
        refine ⟨!xs.isEmpty, .inr (.inl ⟨ys, hs, ?_⟩), p F' H' le G'⟩
        have l := r.length
        cases xs <;> cases ys <;> simp at l ⊢
      | _ => exact p.elim
theorem st_cmp {op : CmpOp} {r : R2} {f : D → D → Option RK} {ma mb : EM} {a b : Expr} {pos : Pos} (ho : OpR X (compareOp op) r) (sim : OpSim (gx X cA) r f) (ha : SE cA X ma a) (hb : SE cA X mb b) (hm : behindInMarks op b = false) : ST cA X (tB (eOp2 f ma mb)) (.Compare a [op] [b] pos) :=
  ⟨fun B W tk => (pt_cmpR ho (ha.run B W tk) (hb.run B W tk) hm).of fun _ _ _ h => op2_imp sim (tB_imp h)⟩
theorem st_truth {m : EM} {a : Expr} (ha : SE cA X m a) (he : ∀ whole, isTrue a X.env whole = (do let v ← whole; standAt a.pos; holding [v] (truthy v))) : ST cA X (tTr m) a :=
  ⟨fun B W tk => (pt_truth (ha.run B W tk) he).of fun _ _ _ h => tTr_imp h⟩

def tAndM (a b : TM) : TM := fun sl => match a sl with
  | .ok true sl' => b sl'
  | r => r
def tOrM (a b : TM) : TM := fun sl => match a sl with
  | .ok false sl' => b sl'
  | r => r
def tNotM (a : TM) : TM := fun sl => match a sl with
  | .ok b sl' => .ok (!b) sl'
  | r => r
theorem tAnd_imp {a b : TM} {Q : Bool → Hp → Prop} (h : tT g B W (tAndM a b) σ H Q) : tAnd (tT g B W a) (tT g B W b) σ H Q := by
  obtain ⟨F, sl, G, p⟩ := h
  refine ⟨F, sl, G, ?_⟩
  unfold tAndM at p
  cases e : a sl with
  | bad => rw [e] at p; exact p
  | err c ns vs sl' => rw [e] at p; exact p
  | ok k sl' =>
    rw [e] at p
    intro F' H' le G'
    cases k with
    | true => exact iteT ⟨F', sl', G', PostT.le p le⟩
    | false => exact iteF (p F' H' le G')
theorem tOr_imp {a b : TM} {Q : Bool → Hp → Prop} (h : tT g B W (tOrM a b) σ H Q) : tOr (tT g B W a) (tT g B W b) σ H Q := by
  obtain ⟨F, sl, G, p⟩ := h
  refine ⟨F, sl, G, ?_⟩
  unfold tOrM at p
  cases e : a sl with
  | bad => rw [e] at p; exact p
  | err c ns vs sl' => rw [e] at p; exact p
  | ok k sl' =>
    rw [e] at p
    intro F' H' le G'
    cases k with
    | true => exact iteT (p F' H' le G')
    | false => exact iteF ⟨F', sl', G', PostT.le p le⟩
theorem tNot_imp {a : TM} {Q : Bool → Hp → Prop} (h : tT g B W (tNotM a) σ H Q) : tNot (tT g B W a) σ H Q := by
  obtain ⟨F, sl, G, p⟩ := h
  refine ⟨F, sl, G, ?_⟩
  unfold tNotM at p
  cases e : a sl with
  | bad => rw [e] at p; exact p
  | err c ns vs sl' => rw [e] at p; exact p
  | ok k sl' => rw [e] at p; exact p
theorem stw_and1 {m : TM} {a : Expr} {pos : Pos} (ha : ST cA X m a) : STW cA X m (.BoolOp .And [a] pos) := ⟨fun B W tk => pw_and1 (ha.run B W tk)⟩
theorem stw_or1 {m : TM} {a : Expr} {pos : Pos} (ha : ST cA X m a) : STW cA X m (.BoolOp .Or [a] pos) := ⟨fun B W tk => pw_or1 (ha.run B W tk)⟩
theorem stw_and {m k : TM} {a b : Expr} {rest : List Expr} {pos : Pos} (ha : ST cA X m a) (hb : STW cA X k (.BoolOp .And (b :: rest) pos)) : STW cA X (tAndM m k) (.BoolOp .And (a :: b :: rest) pos) :=
  ⟨fun B W tk => (pw_and (ha.run B W tk) (hb.run B W tk)).of fun _ _ _ h => tAnd_imp h⟩
theorem stw_or {m k : TM} {a b : Expr} {rest : List Expr} {pos : Pos} (ha : ST cA X m a) (hb : STW cA X k (.BoolOp .Or (b :: rest) pos)) : STW cA X (tOrM m k) (.BoolOp .Or (a :: b :: rest) pos) :=
  ⟨fun B W tk => (pw_or (ha.run B W tk) (hb.run B W tk)).of fun _ _ _ h => tOr_imp h⟩
theorem st_w {m : TM} {a : Expr} (h : STW cA X m a) : ST cA X m a := ⟨fun B W tk => (h.run B W tk).pt⟩
theorem st_not {m : TM} {a : Expr} {pos : Pos} (ha : ST cA X m a) : ST cA X (tNotM m) (.UnaryOp .Not a pos) := ⟨fun B W tk => (pt_not (ha.run B W tk)).of fun _ _ _ h => tNot_imp h⟩

/-! and, or, not, if-else as values -/
def eAndV (a b : EM) : EM := fun sl => match tB a sl with
  | .ok true sl' => b sl'
  | .ok false sl' => .ok (.v (.bl false)) sl'
  | .err c ns vs sl' => .err c ns vs sl'
  | .bad => .bad
def eOrV (a b : EM) : EM := fun sl => match tB a sl with
  | .ok false sl' => b sl'
  | .ok true sl' => .ok (.v (.bl true)) sl'
  | .err c ns vs sl' => .err c ns vs sl'
  | .bad => .bad
def eNotV (a : EM) : EM := fun sl => match tB a sl with
  | .ok b sl' => .ok (.v (.bl (!b))) sl'
  | .err c ns vs sl' => .err c ns vs sl'
  | .bad => .bad
def eIf (t : TM) (a b : EM) : EM := fun sl => match t sl with
  | .ok true sl' => a sl'
  | .ok false sl' => b sl'
  | .err c ns vs sl' => .err c ns vs sl'
  | .bad => .bad
/-- a test's outcomes, as what is wished of its expression -/
theorem tB_split {m : EM} {R : V → Hp → Prop} (G : Good g B F H σ sl) (bad : tB m sl ≠ .bad) (err : ∀ c ns vs sl', tB m sl = .err c ns vs sl' → PostX g B W F σ c ns vs sl')
    (go : ∀ b sl' F' H', tB m sl = .ok b sl' → Le F F' → Good g B F' H' σ sl' → R (.bl b) H') : tE g B W m σ H R := by
  refine ⟨F, sl, G, ?_⟩
  unfold tB at bad err go
  cases e : m sl with
  | bad => rw [e] at bad; exact (bad rfl).elim
  | err c ns vs sl' => rw [e] at err; exact err c ns vs sl' rfl
  | ok a sl' =>
    simp only [e] at bad go
    intro v F' H' le G' x
    cases e2 : cont sl' a with
    | none => simp only [e2] at bad; exact (bad rfl).elim
    | some d =>
      simp only [e2] at bad go
      cases d with
      | bl b => rw [(x.cont G' e2).bl]; exact go b sl' F' H' rfl le G'
      | _ => exact (bad rfl).elim
theorem andV_imp {a b : EM} (h : tE g B W (eAndV a b) σ H Q) : tAndV (tE g B W a) (tE g B W b) σ H Q := by
  obtain ⟨F, sl, G, p⟩ := h
  refine tB_split G (fun e => ?_) (fun c ns vs sl' e => ?_) fun k sl' F' H' e le G' => ?_
  · unfold eAndV at p; rw [e] at p; exact p
  · unfold eAndV at p; rw [e] at p; exact p
  · unfold eAndV at p; rw [e] at p
    cases k with
    | true => exact ⟨true, rfl, iteT ⟨F', sl', G', PostE.le p le⟩⟩
    | false => exact ⟨false, rfl, iteF (p _ F' H' le G' (.bl false))⟩
theorem orV_imp {a b : EM} (h : tE g B W (eOrV a b) σ H Q) : tOrV (tE g B W a) (tE g B W b) σ H Q := by
  obtain ⟨F, sl, G, p⟩ := h
  refine tB_split G (fun e => ?_) (fun c ns vs sl' e => ?_) fun k sl' F' H' e le G' => ?_
  · unfold eOrV at p; rw [e] at p; exact p
  · unfold eOrV at p; rw [e] at p; exact p
  · unfold eOrV at p; rw [e] at p
    cases k with
    | true => exact ⟨true, rfl, iteT (p _ F' H' le G' (.bl true))⟩
    | false => exact ⟨false, rfl, iteF ⟨F', sl', G', PostE.le p le⟩⟩
theorem notV_imp {a : EM} (h : tE g B W (eNotV a) σ H Q) : tNotV (tE g B W a) σ H Q := by
  obtain ⟨F, sl, G, p⟩ := h
  refine tB_split G (fun e => ?_) (fun c ns vs sl' e => ?_) fun k sl' F' H' e le G' => ?_
  · unfold eNotV at p; rw [e] at p; exact p
  · unfold eNotV at p; rw [e] at p; exact p
  · unfold eNotV at p; rw [e] at p
    exact ⟨k, rfl, p _ F' H' le G' (.bl _)⟩
theorem eIf_imp {t : TM} {a b : EM} (h : tE g B W (eIf t a b) σ H Q) : tIf (tT g B W t) (tE g B W a) (tE g B W b) σ H Q := by
  obtain ⟨F, sl, G, p⟩ := h
  refine ⟨F, sl, G, ?_⟩
  unfold eIf at p
  cases e : t sl with
  | bad => rw [e] at p; exact p
  | err c ns vs sl' => rw [e] at p; exact p
  | ok k sl' =>
    rw [e] at p
    intro F' H' le G'
    cases k with
    | true => exact iteT ⟨F', sl', G', PostE.le p le⟩
    | false => exact iteF ⟨F', sl', G', PostE.le p le⟩
theorem se_one {op} {m : EM} {a : Expr} {pos : Pos} (ha : SE cA X m a) : SE cA X m (.BoolOp op [a] pos) := ⟨fun B W tk => pe_one (ha.run B W tk)⟩
theorem se_and {m k : EM} {a b : Expr} {rest : List Expr} {pos : Pos} (ha : SE cA X m a) (hb : SE cA X k (.BoolOp .And (b :: rest) pos)) : SE cA X (eAndV m k) (.BoolOp .And (a :: b :: rest) pos) :=
  ⟨fun B W tk => (pe_and (ha.run B W tk) (hb.run B W tk)).of fun _ _ _ h => andV_imp h⟩
theorem se_or {m k : EM} {a b : Expr} {rest : List Expr} {pos : Pos} (ha : SE cA X m a) (hb : SE cA X k (.BoolOp .Or (b :: rest) pos)) : SE cA X (eOrV m k) (.BoolOp .Or (a :: b :: rest) pos) :=
  ⟨fun B W tk => (pe_or (ha.run B W tk) (hb.run B W tk)).of fun _ _ _ h => orV_imp h⟩
theorem se_not {m : EM} {a : Expr} {pos : Pos} (ha : SE cA X m a) : SE cA X (eNotV m) (.UnaryOp .Not a pos) := ⟨fun B W tk => (pe_not (ha.run B W tk)).of fun _ _ _ h => notV_imp h⟩
theorem se_if {t : TM} {m k : EM} {c a b : Expr} {pos : Pos} (hc : ST cA X t c) (ha : SE cA X m a) (hb : SE cA X k b) : SE cA X (eIf t m k) (.IfExp c a b pos) :=
  ⟨fun B W tk => (pe_ifExp (hc.run B W tk) (ha.run B W tk) (hb.run B W tk)).of fun _ _ _ h => eIf_imp h⟩

/-! names, constants -/
def eVar (i : Nat) : EM := fun sl => match sl[i]? with
  | some (.val d) => .ok (.v d) sl
  | some (.own _) => .ok (.s i) sl
  | some (.io _) => .ok (.s i) sl
  | some (.lock _ _) => .ok (.s i) sl
  | some (.al j k) => (match sl[j]? with
    | some (.sh _ _) => .ok (.p j k) sl
    | _ => .bad)
  | _ => .bad
def eC (d : D) : EM := fun sl => .ok (.v d) sl
theorem var_imp {i : Nat} (h : tE g B W (eVar i) σ H Q) : tVar i σ H Q := by
  obtain ⟨F, sl, G, p⟩ := h
  unfold eVar at p
  cases e : sl[i]? with
  | none => rw [e] at p; exact p.elim
  | some s =>
    rw [e] at p
    have q := G.slot i s e
    cases s with
    | val d => obtain ⟨v, h1, r⟩ := q; exact ⟨v, h1, p v F H (.refl _) G r⟩
    | own d => obtain ⟨a, h1, _⟩ := q; exact ⟨_, h1, p _ F H (.refl _) G ⟨a, rfl, h1⟩⟩
    | io d => obtain ⟨a, h1, _⟩ := q; exact ⟨_, h1, p _ F H (.refl _) G ⟨a, rfl, h1⟩⟩
    | lock b d => obtain ⟨a, h1, _⟩ := q; exact ⟨_, h1, p _ F H (.refl _) G ⟨a, rfl, h1⟩⟩
    | al j k =>
      dsimp only at p
      cases e2 : sl[j]? with
      | none => rw [e2] at p; exact p.elim
      | some s2 =>
        rw [e2] at p
        cases s2 with
        | sh ls ks => obtain ⟨q, xs, v, h1, h2, h3, h4⟩ := G.als i j k ls ks e e2; exact ⟨v, h4, p _ F H (.refl _) G ⟨ls, q, xs, h1, h2, h3⟩⟩
        | _ => exact p.elim
    | emp => exact p.elim
    | exc _ _ _ => exact p.elim
    | sh _ _ => exact p.elim
theorem se_var (i : Nat) {x : Str} {pos : Pos} (hN : X.N[i]? = some x := by rfl) (hv : Vis X.env.scope x := by first | exact Or.inl rfl | exact Or.inr (Or.inl rfl) | exact Or.inr (Or.inr rfl)) (hd : (x == ("__debug__" : Str)) = false := by decide)
    (hcd : (x == ("__classdict__" : Str)) = false := by decide) : SE cA X (eVar i) (.Name x pos) := ⟨fun B W _ => (pv i hN hv hd hcd).of fun _ _ _ h => var_imp h⟩
theorem c_imp {v : V} {d : D} (r : ∀ F, Rep g F v d) (h : tE g B W (eC d) σ H Q) : tC v σ H Q := by
  obtain ⟨F, sl, G, p⟩ := h
  exact p v F H (.refl _) G (r F)
theorem se_int {i : Int} {j pos} : SE cA X (eC (.int i)) (.Constant (.int i) j pos) := ⟨fun _ _ _ => pe_int.of fun _ _ _ h => c_imp (fun _ => .int i) h⟩
theorem se_bl {i : Bool} {j pos} : SE cA X (eC (.bl i)) (.Constant (.bool i) j pos) := ⟨fun _ _ _ => pe_bl.of fun _ _ _ h => c_imp (fun _ => .bl i) h⟩
theorem se_non {j pos} : SE cA X (eC .non) (.Constant .none j pos) := ⟨fun _ _ _ => pe_non.of fun _ _ _ h => c_imp (fun _ => .non) h⟩
theorem se_str {x : Str} {j pos} : SE cA X (eC (.str x)) (.Constant (.str x) j pos) := ⟨fun _ _ _ => pe_str.of fun _ _ _ h => c_imp (fun _ => .str x) h⟩
/-- a module's number -/
theorem se_globI {x : Str} {i : Int} {t : Tok} {pos : Pos} (hg : L2.Gl X x) (hm : X.mg x = some (.int i t)) (hd : (x == ("__debug__" : Str)) = false := by decide) : SE cA X (eC (.int i)) (.Name x pos) :=
  ⟨fun _ _ _ => (pe_glob hg hm (v := .int i) ⟨t, rfl⟩ hd).of fun _ _ _ h => c_imp (fun _ => .int i) h⟩

/-! lists of expressions -/
def lNil : LM := fun sl => .ok [] sl
def lCons (m : EM) (l : LM) : LM := fun sl => match eV m sl with
  | .ok a sl' => (match l sl' with
    | .ok as sl2 => .ok (a :: as) sl2
    | r => r)
  | .err c ns vs sl' => .err c ns vs sl'
  | .bad => .bad
theorem lNil_imp {Q : List V → Hp → Prop} (h : tL g B W lNil σ H Q) : tNil σ H Q := by
  obtain ⟨F, sl, G, p⟩ := h
  exact p [] F H (.refl _) G .nil
theorem lCons_imp {m : EM} {l : LM} {Q : List V → Hp → Prop} (h : tL g B W (lCons m l) σ H Q) : tCons (tE g B W m) (tL g B W l) σ H Q := by
  obtain ⟨F, sl, G, p⟩ := h
  refine ⟨F, sl, G, ?_⟩
  unfold lCons eV at p
  cases e : m sl with
  | bad => rw [e] at p; exact p
  | err c ns vs sl' => rw [e] at p; exact p
  | ok a sl' =>
    rw [e] at p
    intro v F' H' le G' x
    obtain ⟨F2, le2, G2, x2⟩ := x.frz G'
    refine ⟨F2, sl', G2, ?_⟩
    dsimp only at p
    cases e2 : l sl' with
    | bad => rw [e2] at p; exact p
    | err c ns vs sl2 => rw [e2] at p; exact PostX.le p (le.trans le2)
    | ok as sl2 =>
      rw [e2] at p
      exact fun vs F3 H3 l3 G3 xs => p (v :: vs) F3 H3 ((le.trans le2).trans l3) G3 (.cons (x2.le l3 (stab_frz a)) xs)
theorem sl_nil : SL cA X lNil [] := ⟨fun _ _ _ => pa_nil.of fun _ _ _ h => lNil_imp h⟩
theorem sl_cons {m : EM} {l : LM} {e : Expr} {es : List Expr} (ha : SE cA X m e) (hr : SL cA X l es) (hs : starEach (e :: es) X.env = (false, eval e X.env) :: starEach es X.env := by rfl) : SL cA X (lCons m l) (e :: es) :=
  ⟨fun B W tk => (pa_cons (ha.run B W tk) (hr.run B W tk) hs).of fun _ _ _ h => lCons_imp h⟩

/-! a function of the contents of a list of values -/
def conts (sl : List Slot) : List AV → Option (List D)
  | [] => some []
  | a :: as => match cont sl a, conts sl as with
    | some d, some ds => some (d :: ds)
    | _, _ => none
def eFn (f : List D → Option RK) (l : LM) : EM := fun sl => match l sl with
  | .ok as sl' => (match conts sl' as with
    | some ds => retR (f ds) sl'
    | none => .bad)
  | .err c ns vs sl' => .err c ns vs sl'
  | .bad => .bad
inductive Conts (g : G0) (F H : Hp) : List V → List D → Prop
  | nil : Conts g F H [] []
  | cons {v : V} {d : D} {vs : List V} {ds : List D} : Cont g F H v d → Conts g F H vs ds → Conts g F H (v :: vs) (d :: ds)
def FnSim (g : G0) (r : List V → Hp → VK → Prop) (f : List D → Option RK) : Prop := ∀ (F H : Hp) (vs : List V) (ds : List D) (res : RK) (Q : VK), Le F H → Conts g F H vs ds → f ds = some res → PostR g F H Q res → r vs H Q
theorem conts_ok (G : Good g B F H σ sl) : ∀ {vs : List V} {as : List AV} {ds : List D}, AVs g B F H σ sl vs as → conts sl as = some ds → Conts g F H vs ds
  | _, _, _, .nil, e => by cases e; exact .nil
  | _, _, _, .cons (a := a) (as := as) x xs, e => by
    unfold conts at e
    cases e1 : cont sl a with
    | none => rw [e1] at e; cases e
    | some d =>
      cases e2 : conts sl as with
      | none => rw [e1, e2] at e; cases e
      | some ds' =>
        rw [e1, e2] at e
        cases e
        exact .cons (x.cont G e1) (conts_ok G xs e2)
theorem fn_imp {r : List V → Hp → VK → Prop} {f : List D → Option RK} {l : LM} (sim : FnSim g r f) (h : tE g B W (eFn f l) σ H Q) : tL g B W l σ H fun vs H1 => r vs H1 Q := by
  obtain ⟨F, sl, G, p⟩ := h
  refine ⟨F, sl, G, ?_⟩
  unfold eFn at p
  cases e : l sl with
  | bad => rw [e] at p; exact p
  | err c ns vs sl' => rw [e] at p; exact p
  | ok as sl' =>
    rw [e] at p
    intro vs F' H' le G' xs
    dsimp only at p
    cases e2 : conts sl' as with
    | none => rw [e2] at p; exact p.elim
    | some ds =>
      rw [e2] at p
      dsimp only at p
      cases e3 : f ds with
      | none => rw [e3] at p; exact p.elim
      | some res => exact sim F' H' vs ds res Q G'.sub (conts_ok G' xs e2) e3 (PostE.ofR G' e3 (PostE.le p le))
theorem se_callB {id : String} {r : List V → Hp → VK → Prop} {f : List D → Option RK} {l : LM} {x : Str} {e : Expr} {es : List Expr} {p pos : Pos} (hc : CallR X (.builtin id) r) (sim : FnSim (gx X cA) r f) (hg : L2.Gl X x) (hm : X.mg x = none) (hv : bootBuiltins x = some (.builtin id)) (ha : SL cA X l (e :: es))
    (hn : x ≠ "__name__" := by decide) (hdb : (x == ("__debug__" : Str)) = false := by decide) (he : starEach (e :: es) X.env = (false, eval e X.env) :: starEach es X.env := by rfl) (hpl : (backTo pos (starEach es X.env)).any (·.1) = false := by rfl) : SE cA X (eFn f l) (.Call (.Name x p) (e :: es) [] pos) :=
  ⟨fun B W tk => (pe_callB hc hg hm hv (ha.run B W tk) hn hdb he hpl).of fun _ _ _ h => fn_imp sim h⟩
theorem se_callTy {id : String} {r : List V → Hp → VK → Prop} {f : List D → Option RK} {l : LM} {x : Str} {e : Expr} {es : List Expr} {p pos : Pos} (hc : CallR X (.type id) r) (sim : FnSim (gx X cA) r f) (hg : L2.Gl X x) (hm : X.mg x = none) (hv : bootBuiltins x = some (.type id)) (ha : SL cA X l (e :: es))
    (hn : x ≠ "__name__" := by decide) (hdb : (x == ("__debug__" : Str)) = false := by decide) (he : starEach (e :: es) X.env = (false, eval e X.env) :: starEach es X.env := by rfl) (hpl : (backTo pos (starEach es X.env)).any (·.1) = false := by rfl) : SE cA X (eFn f l) (.Call (.Name x p) (e :: es) [] pos) :=
  ⟨fun B W tk => (pe_callTy hc hg hm hv (ha.run B W tk) hn hdb he hpl).of fun _ _ _ h => fn_imp sim h⟩

/-! displays: nothing of one's own escapes -/
def vals : List AV → Option (List D)
  | [] => some []
  | .v d :: as => (vals as).map (d :: ·)
  | _ => none
def most : Nat := 16000000
def eTup (l : LM) : EM := fun sl => match l sl with
  | .ok as sl' => (match vals as with
    | some ds => if ds.length ≤ most then .ok (.v (.tup ds)) sl' else .bad
    | none => .bad)
  | .err c ns vs sl' => .err c ns vs sl'
  | .bad => .bad
def eLst (l : LM) : EM := fun sl => match l sl with
  | .ok as sl' => (match vals as with
    | some ds => if ds.length ≤ most then .ok (.n (.lst ds)) sl' else .bad
    | none => .bad)
  | .err c ns vs sl' => .err c ns vs sl'
  | .bad => .bad
theorem vals_ok : ∀ {vs : List V} {as : List AV} {ds : List D}, AVs g B F H σ sl vs as → vals as = some ds → Reps g F vs ds
  | _, _, _, .nil, e => by cases e; exact .nil
  | _, _, _, .cons (a := a) (as := as) x xs, e => by
    cases a with
    | v d =>
      unfold vals at e
      cases e1 : vals as with
      | none => rw [e1] at e; cases e
      | some ds' => rw [e1] at e; cases e; exact .cons x (vals_ok xs e1)
    | _ => cases e
theorem most_line {n : Nat} (h : n ≤ most) : n ≤ sizeLine := Nat.le_trans h (by rw [sizeLine_eq]; decide)
theorem most_lt {n : Nat} (h : n ≤ most) : n < sizeLine := Nat.lt_of_le_of_lt h (by rw [sizeLine_eq]; decide)
theorem tup_imp {l : LM} (h : tE g B W (eTup l) σ H Q) : tTup (tL g B W l) σ H Q := by
  obtain ⟨F, sl, G, p⟩ := h
  refine ⟨F, sl, G, ?_⟩
  unfold eTup at p
  cases e : l sl with
  | bad => rw [e] at p; exact p
  | err c ns vs sl' => rw [e] at p; exact p
  | ok as sl' =>
    rw [e] at p
    dsimp only at p
    intro vs F' H' le G' xs
    cases e2 : vals as with
    | none => rw [e2] at p; exact p.elim
    | some ds =>
      rw [e2] at p
      dsimp only at p
      have r := vals_ok xs e2
      by_cases hl : ds.length ≤ most
      · rw [if_pos hl] at p
        refine ⟨by rw [r.length]; exact most_line hl, fun q hq => ?_⟩
        have x : Ext F' H' (upd F' q (.tup vs)) (upd H' q (.tup vs)) := Ext.frozen G'.sub hq
        exact p _ _ _ (le.trans x.f) (G'.ext' x) (.tup (SqT.of upd_same) (r.mono x.f))
      · rw [if_neg hl] at p; exact p.elim
theorem lst_imp {l : LM} (h : tE g B W (eLst l) σ H Q) : tLst (tL g B W l) σ H Q := by
  obtain ⟨F, sl, G, p⟩ := h
  refine ⟨F, sl, G, ?_⟩
  unfold eLst at p
  cases e : l sl with
  | bad => rw [e] at p; exact p
  | err c ns vs sl' => rw [e] at p; exact p
  | ok as sl' =>
    rw [e] at p
    dsimp only at p
    intro vs F' H' le G' xs
    cases e2 : vals as with
    | none => rw [e2] at p; exact p.elim
    | some ds =>
      rw [e2] at p
      dsimp only at p
      have r := vals_ok xs e2
      by_cases hl : ds.length ≤ most
      · rw [if_pos hl] at p
        refine ⟨by rw [r.length]; exact most_line hl, fun q hq => ?_⟩
        have x : Ext F' H' F' (upd H' q (.lst vs)) := Ext.laid G'.sub hq
        exact p _ _ _ le (G'.ext' x) ⟨q, rfl, le_none G'.sub hq, G'.freshH0 hq, G'.mineNe hq, .lst upd_same r⟩
      · rw [if_neg hl] at p; exact p.elim
theorem se_tup {x1} {l : LM} {es : List Expr} {pos : Pos} (h : SL cA X l es) : SE cA X (eTup l) (.Tuple es x1 pos) := ⟨fun B W tk => (pe_tup (h.run B W tk)).of fun _ _ _ h => tup_imp h⟩
theorem se_lst {l : LM} {es : List Expr} {pos : Pos} (h : SL cA X l es) : SE cA X (eLst l) (.List es pos) := ⟨fun B W tk => (pe_lst (h.run B W tk)).of fun _ _ _ h => lst_imp h⟩
end rules
end Za
end
section
set_option Elab.async false
set_option linter.all false
set_option maxRecDepth 100000
set_option maxHeartbeats 2000000
namespace Za
open PySem PySem.Spec PyProof.Rows L2

/-! ### slots are stored, objects of one's own change -/
def storable (sl : List Slot) (i : Nat) : Bool := decide (i < sl.length) && match sl[i]? with
  | some (.io _) | some (.lock _ _) | none => false
  | _ => true
section store
variable {g : G0} {B : Base} {F F' H H' : Hp} {σ : St} {sl : List Slot} {v : V} {i : Nat}
theorem SlotOk.other {x : Option V} {j : Nat} {s : Slot} (q : SlotOk g B F H σ j s) (ne : j ≠ i) : SlotOk g B F H (σ.set i x) j s := by
  have e : (σ.set i x)[j]? = σ[j]? := List.getElem?_set_ne (Ne.symm ne)
  cases s with
  | emp => trivial
  | val d => obtain ⟨v, h, r⟩ := q; exact ⟨v, e.trans h, r⟩
  | own d => obtain ⟨a, h, r⟩ := q; exact ⟨a, e.trans h, r⟩
  | io d => obtain ⟨a, h, r⟩ := q; exact ⟨a, e.trans h, r⟩
  | lock b d => obtain ⟨a, h, r⟩ := q; exact ⟨a, e.trans h, r⟩
  | exc c ns vs => obtain ⟨a, oe, dd, h1, h2, h3⟩ := q; exact ⟨a, oe, dd, h1, e.trans h2, h3⟩
  | sh ls ks => obtain ⟨q, xs, h1, h2⟩ := q; exact ⟨q, xs, e.trans h1, h2⟩
  | al j k => trivial
theorem Mine.other {x : Option V} {s : Slot} {j : Nat} {a : Addr} (m : Mine F (σ.set i x) (sl.set i s) j a) (ne : j ≠ i) : Mine F σ sl j a := by
  rcases m with m | ⟨ls, ks, q, xs, h1, h3, r⟩
  · obtain ⟨⟨s', d, h1, h2⟩, h3⟩ := m
    rw [List.getElem?_set_ne (Ne.symm ne)] at h1 h3
    exact .inl ⟨⟨s', d, h1, h2⟩, h3⟩
  · rw [List.getElem?_set_ne (Ne.symm ne)] at h1 h3
    exact .inr ⟨ls, ks, q, xs, h1, h3, r⟩
theorem Good.setSlot (G : Good g B F H σ sl) {s : Slot} {x : Option V} (hs : i < sl.length) (ok : SlotOk g B F H (σ.set i x) i s) (ap : ∀ a, Mine F (σ.set i x) (sl.set i s) i a → ∀ j b, Mine F σ sl j b → j ≠ i → b ≠ a)
    (hal : ∀ (j k : Nat) (ls : Bool) (ks : List Kid), s = .al j k → sl[j]? = some (.sh ls ks) → j ≠ i → ∃ q xs v, σ[j]? = some (some (.ref q)) ∧ ShellO ls F q xs ∧ xs[k]? = some v ∧ x = some v := by intro _ _ _ _ z; cases z)
    (hns : ∀ (j k : Nat) (ls : Bool) (ks : List Kid), s = .sh ls ks → sl[j]? ≠ some (.al i k) := by intro _ _ _ _ z; cases z) :
    Good g B F H (σ.set i x) (sl.set i s) where
  sub := G.sub
  ext := G.ext
  new := G.new
  keep := G.keep
  live := G.live
  slot := fun j t e => by
    by_cases ne : j = i
    · subst ne
      rw [List.getElem?_set_self hs] at e
      cases e; exact ok
    · rw [List.getElem?_set_ne (Ne.symm ne)] at e
      exact (G.slot j t e).other ne
  apart := fun j k a b ne m1 m2 => by
    by_cases n1 : j = i
    · subst n1
      exact (ap a m1 k b (m2.other (Ne.symm ne)) (Ne.symm ne)).symm
    · by_cases n2 : k = i
      · subst n2
        exact ap b m2 j a (m1.other n1) n1
      · exact G.apart j k a b ne (m1.other n1) (m2.other n2)
  len := by rw [List.length_set, List.length_set]; exact G.len
  als := fun i' j k ls ks e1 e2 => by
    by_cases n2 : j = i
    · subst n2
      rw [List.getElem?_set_self hs] at e2
      cases e2
      by_cases n1 : i' = j
      · subst n1
        rw [List.getElem?_set_self hs] at e1
        cases e1
      · rw [List.getElem?_set_ne (Ne.symm n1)] at e1
        exact absurd e1 (hns i' k ls ks rfl)
    · rw [List.getElem?_set_ne (Ne.symm n2)] at e2
      have n2' : (σ.set i x)[j]? = σ[j]? := List.getElem?_set_ne (Ne.symm n2)
      by_cases n1 : i' = i
      · subst n1
        rw [List.getElem?_set_self hs] at e1
        obtain ⟨q, xs, v, h1, h2, h3, h4⟩ := hal j k ls ks (Option.some.inj e1) e2 n2
        exact ⟨q, xs, v, n2'.trans h1, h2, h3, by rw [List.getElem?_set_self (by rw [G.len]; exact hs), h4]⟩
      · rw [List.getElem?_set_ne (Ne.symm n1)] at e1
        obtain ⟨q, xs, v, h1, h2, h3, h4⟩ := G.als i' j k ls ks e1 e2
        exact ⟨q, xs, v, n2'.trans h1, h2, h3, (List.getElem?_set_ne (Ne.symm n1)).trans h4⟩
theorem Good.setVal (G : Good g B F H σ sl) {d : D} (hs : i < sl.length) (r : Rep g F v d) : Good g B F H (σ.set i (some v)) (sl.set i (.val d)) := by
  refine G.setSlot hs ⟨v, List.getElem?_set_self (by rw [G.len]; exact hs), r⟩ fun a m => ?_
  rcases m with ⟨⟨s, d', h1, h2⟩, _⟩ | ⟨ls, ks, q, xs, h1, _⟩
  · rw [List.getElem?_set_self hs] at h1
    cases h1; cases h2
  · rw [List.getElem?_set_self hs] at h1
    cases h1
theorem Good.setOwn (G : Good g B F H σ sl) {d : D} (hs : i < sl.length) (x : AVOk g B F H σ sl v (.n d)) : Good g B F H (σ.set i (some v)) (sl.set i (.own d)) := by
  obtain ⟨q, rfl, n, n0, nm, c⟩ := x
  have hσ : i < σ.length := by rw [G.len]; exact hs
  refine G.setSlot hs ⟨q, List.getElem?_set_self hσ, n, ⟨.inl n0, fun z => Bool.noConfusion z⟩, c⟩ fun a m j b mb _ => ?_
  rcases m with m | ⟨ls, ks, q', xs, h1, _⟩
  · have h3 := m.2
    rw [List.getElem?_set_self hσ] at h3
    cases h3
    exact nm j b mb
  · rw [List.getElem?_set_self hs] at h1
    cases h1
theorem Good.setEmp (G : Good g B F H σ sl) {x : Option V} (hs : i < sl.length) : Good g B F H (σ.set i x) (sl.set i .emp) := by
  refine G.setSlot hs trivial fun a m => ?_
  rcases m with ⟨⟨s, d', h1, h2⟩, _⟩ | ⟨ls, ks, q, xs, h1, _⟩
  · rw [List.getElem?_set_self hs] at h1
    cases h1; cases h2
  · rw [List.getElem?_set_self hs] at h1
    cases h1
/-- what a slot of one's own is when its content is d -/
def reD : Slot → D → Slot
  | .own _, d => .own d
  | .io _, d => .io d
  | s, _ => s
def mutD : Slot → Option D
  | .own d | .io d => some d
  | _ => none
theorem mine_of_mut {s : Slot} {d : D} (h : mutD s = some d) : mineD s = some d := by cases s <;> first | exact h | cases h
/-- the object of slot i changes -/
theorem Good.mutate (G : Good g B F H σ sl) {s : Slot} {d d' : D} {a : Addr} {o : HO} (h1 : sl[i]? = some s) (h2 : mutD s = some d) (h3 : σ[i]? = some (some (.ref a))) (c : CellAt g F (upd H a o) a d') : Good g B F (upd H a o) σ (sl.set i (reD s d')) := by
  have hs : i < sl.length := (List.getElem?_eq_some_iff.mp h1).1
  have mi : Mine F σ sl i a := .inl ⟨⟨s, d, h1, mine_of_mut h2⟩, h3⟩
  obtain ⟨nF, _⟩ := G.mine mi
  have own : OwnA B i (match s with | .io _ => true | _ => false) a := by
    have q := G.slot i s h1
    cases s with
    | own _ => obtain ⟨b, e, _, w, _⟩ := q; rw [h3] at e; cases e; exact w
    | io _ => obtain ⟨b, e, _, w, _⟩ := q; rw [h3] at e; cases e; exact w
    | _ => cases h2
  have other : ∀ j b, j ≠ i → Mine F σ sl j b → upd H a o b = H b := fun j b ne m => upd_ne (G.apart j i b a ne m mi)
  have oth : ∀ j t, j ≠ i → sl[j]? = some t → SlotOk g B F (upd H a o) σ j t := fun j t ne e => by
    have q := G.slot j t e
    cases t with
    | emp => trivial
    | val d => exact q
    | own d => obtain ⟨b, e2, n, w, c2⟩ := q; exact ⟨b, e2, n, w, c2.mono (.refl _) (other j b ne (.inl ⟨⟨_, _, e, rfl⟩, e2⟩))⟩
    | io d => obtain ⟨b, e2, n, w, c2⟩ := q; exact ⟨b, e2, n, w, c2.mono (.refl _) (other j b ne (.inl ⟨⟨_, _, e, rfl⟩, e2⟩))⟩
    | lock k d => obtain ⟨b, e2, n, w, c2⟩ := q; exact ⟨b, e2, n, w, c2.mono (.refl _) (other j b ne (.inl ⟨⟨_, _, e, rfl⟩, e2⟩))⟩
    | exc c ns vs =>
      obtain ⟨b, oe, dd, h1, h2, h3, h4, fs, h5, h6, h7⟩ := q
      have nd : dd ≠ a := fun z => by
        subst z
        obtain ⟨_, d0, c0⟩ := G.mine mi
        obtain ⟨o0, ho, hc⟩ := c0.obj'
        rw [h5] at ho; cases ho; cases hc
      exact ⟨b, oe, dd, h1, h2, h3, h4, fs, by rw [upd_ne nd]; exact h5, h6, h7⟩
    | sh ls ks =>
      obtain ⟨q, xs, h1, h2, K, w⟩ := q
      exact ⟨q, xs, h1, h2, K.mono (.refl _) fun b kb => ⟨(K.own kb).1, other j b ne (.inr ⟨ls, ks, q, xs, e, h1, h2, kb⟩)⟩, w⟩
    | al _ _ => trivial
  have rs : ∀ (ls : Bool) (ks : List Kid), reD s d' ≠ .sh ls ks := fun ls ks z => by cases s <;> first | (cases h2; done) | (cases z)
  have ra : ∀ ls ks : Nat, reD s d' ≠ .al ls ks := fun ls ks z => by cases s <;> first | (cases h2; done) | (cases z)
  have mm : ∀ j b, Mine F σ (sl.set i (reD s d')) j b → Mine F σ sl j b := fun j b m => by
    by_cases ne : j = i
    · subst ne
      rcases m with m | ⟨ls, ks, q, xs, q1, _⟩
      · have := m.2; rw [h3] at this; cases this; exact mi
      · rw [List.getElem?_set_self hs] at q1
        exact absurd (Option.some.inj q1) (rs ls ks)
    · rcases m with ⟨⟨s', d2, q1, q2⟩, q3⟩ | ⟨ls, ks, q, xs, q1, q2⟩
      · rw [List.getElem?_set_ne (Ne.symm ne)] at q1
        exact .inl ⟨⟨s', d2, q1, q2⟩, q3⟩
      · rw [List.getElem?_set_ne (Ne.symm ne)] at q1
        exact .inr ⟨ls, ks, q, xs, q1, q2⟩
  refine ⟨fun b u e => ?_, G.ext, G.new, fun b u e n => ?_, fun b hb => ?_, fun j t e => ?_, fun j k b c' ne m1 m2 => G.apart j k b c' ne (mm j b m1) (mm k c' m2), by rw [List.length_set]; exact G.len, fun i' j k ls ks e1 e2 => ?_⟩
  · rw [upd_ne (ne_of_none e nF)]; exact G.sub b u e
  · have : b ≠ a := fun z => by
      subst z
      rcases own.1 with q | q
      · rw [q] at e; cases e
      · exact n q
    rw [upd_ne this]; exact G.keep b u e n
  · by_cases z : b = a
    · subst z; exact ⟨o, upd_same⟩
    · rw [upd_ne z]; exact G.live b hb
  · by_cases ne : j = i
    · subst ne
      rw [List.getElem?_set_self hs] at e
      cases e
      cases s with
      | own _ => exact ⟨a, h3, nF, own, c⟩
      | io _ => exact ⟨a, h3, nF, own, c⟩
      | _ => cases h2
    · rw [List.getElem?_set_ne (Ne.symm ne)] at e
      exact oth j t ne e
  · by_cases n2 : j = i
    · subst n2
      rw [List.getElem?_set_self hs] at e2
      exact absurd (Option.some.inj e2) (rs ls ks)
    · rw [List.getElem?_set_ne (Ne.symm n2)] at e2
      by_cases n1 : i' = i
      · subst n1
        rw [List.getElem?_set_self hs] at e1
        exact absurd (Option.some.inj e1) (ra j k)
      · rw [List.getElem?_set_ne (Ne.symm n1)] at e1
        exact G.als i' j k ls ks e1 e2
end store

/-! ### another base: all that stands now is kept, but for one's own -/
section base
variable {g : G0} {B : Base} {F F' H H' : Hp} {σ : St} {sl sl' : List Slot} {v : V}
/-- the addresses of one's own -/
def kidAs : List V → List Kid → List Addr
  | .ref a :: xs, .ow _ :: ks => a :: kidAs xs ks
  | _ :: xs, _ :: ks => kidAs xs ks
  | _, _ => []
theorem mem_kidAs {a : Addr} : ∀ {xs : List V} {ks : List Kid}, a ∈ kidAs xs ks ↔ KidA xs ks a := by
  have hd : ∀ {x : V} {xs : List V} {kd : Kid} {ks : List Kid}, KidA (x :: xs) (kd :: ks) a ↔ (∃ d, kd = .ow d ∧ x = .ref a) ∨ KidA xs ks a := by
    intro x xs kd ks
    constructor
    · rintro ⟨k, d, h1, h2⟩
      cases k with
      | zero => exact .inl ⟨d, by simpa using h1, by simpa using h2⟩
      | succ k => exact .inr ⟨k, d, by simpa using h1, by simpa using h2⟩
    · rintro (⟨d, h1, h2⟩ | ⟨k, d, h1, h2⟩)
      · exact ⟨0, d, by simp [h1], by simp [h2]⟩
      · exact ⟨k + 1, d, by simpa using h1, by simpa using h2⟩
  intro xs
  induction xs with
  | nil =>
    intro ks
    constructor
    · intro h; cases ks <;> cases h
    · rintro ⟨k, d, _, h⟩; simp at h
  | cons x xs ih =>
    intro ks
    cases ks with
    | nil =>
      constructor
      · intro h; cases x <;> cases h
      · rintro ⟨k, d, h, _⟩; simp at h
    | cons kd ks =>
      rw [hd, ← ih]
      cases kd with
      | fz d =>
        have e : kidAs (x :: xs) (.fz d :: ks) = kidAs xs ks := by cases x <;> rfl
        rw [e]
        constructor
        · exact .inr
        · rintro (⟨_, z, _⟩ | h)
          · cases z
          · exact h
      | ow d =>
        cases x with
        | ref b =>
          show a ∈ b :: kidAs xs ks ↔ _
          rw [List.mem_cons]
          constructor
          · rintro (rfl | h)
            · exact .inl ⟨d, rfl, rfl⟩
            · exact .inr h
          · rintro (⟨_, _, z⟩ | h)
            · cases z; exact .inl rfl
            · exact .inr h
        | _ =>
          constructor
          · exact .inr
          · rintro (⟨_, _, z⟩ | h)
            · cases z
            · exact h
def slotAs (F : Hp) : Option Slot → Option (Option V) → List Addr
  | some (.sh ls ks), some (some (.ref q)) => (match F q with
    | some (.lst xs) => if ls then kidAs xs ks else []
    | some (.tup xs) => if ls then [] else kidAs xs ks
    | _ => [])
  | some s, some (some (.ref a)) => if (mineD s).isSome then [a] else []
  | _, _ => []
def ownAs (F : Hp) (σ : St) (sl : List Slot) : List Addr := (List.range sl.length).flatMap fun i => slotAs F sl[i]? σ[i]?
theorem mem_slotAs {F : Hp} {σ : St} {sl : List Slot} {i : Nat} {a : Addr} : a ∈ slotAs F sl[i]? σ[i]? ↔ Mine F σ sl i a := by
  have sh : ∀ {ls : Bool} {ks : List Kid} {q : Addr}, a ∈ slotAs F (some (.sh ls ks)) (some (some (.ref q))) ↔ ∃ xs, ShellO ls F q xs ∧ KidA xs ks a := by
    intro ls ks q
    unfold slotAs ShellO
    dsimp only
    cases e : F q with
    | none => simp
    | some o =>
      cases o <;> cases ls <;> simp [mem_kidAs]
  constructor
  · intro h
    cases e1 : sl[i]? with
    | none => rw [e1] at h; cases h
    | some s =>
      cases e2 : σ[i]? with
      | none => rw [e1, e2] at h; cases s <;> cases h
      | some x =>
        cases x with
        | none => rw [e1, e2] at h; cases s <;> cases h
        | some v =>
          rw [e1, e2] at h
          cases v with
          | ref b =>
            cases s with
            | sh ls ks => obtain ⟨xs, h1, h2⟩ := sh.mp h; exact .inr ⟨ls, ks, b, xs, e1, e2, h1, h2⟩
            | own d => have := List.mem_singleton.mp h; subst this; exact .inl ⟨⟨_, d, e1, rfl⟩, e2⟩
            | io d => have := List.mem_singleton.mp h; subst this; exact .inl ⟨⟨_, d, e1, rfl⟩, e2⟩
            | lock b' d => have := List.mem_singleton.mp h; subst this; exact .inl ⟨⟨_, d, e1, rfl⟩, e2⟩
            | _ => cases h
          | _ => cases s <;> cases h
  · rintro (⟨⟨s, d, e1, e3⟩, e2⟩ | ⟨ls, ks, q, xs, e1, e2, h1, h2⟩)
    · rw [e1, e2]
      cases s with
      | own d => exact List.mem_singleton.mpr rfl
      | io d => exact List.mem_singleton.mpr rfl
      | lock b' d => exact List.mem_singleton.mpr rfl
      | _ => cases e3
    · rw [e1, e2]
      exact sh.mpr ⟨xs, h1, h2⟩
theorem mem_ownAs {F : Hp} {a : Addr} : a ∈ ownAs F σ sl ↔ ∃ i, Mine F σ sl i a := by
  unfold ownAs
  rw [List.mem_flatMap]
  constructor
  · rintro ⟨i, _, h⟩; exact ⟨i, mem_slotAs.mp h⟩
  · rintro ⟨i, m⟩
    refine ⟨i, List.mem_range.mpr ?_, mem_slotAs.mpr m⟩
    rcases m with ⟨⟨s, d, e1, _⟩, _⟩ | ⟨ls, ks, q, xs, e1, _⟩
    · exact (List.getElem?_eq_some_iff.mp e1).1
    · exact (List.getElem?_eq_some_iff.mp e1).1
def reB (B : Base) (F H : Hp) (σ : St) (sl : List Slot) : Base := ⟨F, H, B.A ++ ownAs F σ sl, B.io, B.lk, B.ex⟩
theorem Good.rebase (G : Good g B F H σ sl) : Good g (reB B F H σ sl) F H σ sl where
  sub := G.sub
  ext := .refl _
  new := fun a o h n => by rw [show (reB B F H σ sl).F0 = F from rfl, h] at n; cases n
  keep := fun a o h _ => h
  live := fun a h => by
    rcases List.mem_append.mp h with h | h
    · exact G.live a h
    · obtain ⟨i, m⟩ := mem_ownAs.mp h
      obtain ⟨_, d, c⟩ := G.mine m
      obtain ⟨o, e, _⟩ := c.obj'
      exact ⟨o, e⟩
  slot := fun i s e => by
    have q := G.slot i s e
    cases s with
    | emp => trivial
    | val d => exact q
    | own d => obtain ⟨a, e2, n, w, c⟩ := q; exact ⟨a, e2, n, ⟨.inr (List.mem_append_right _ (mem_ownAs.mpr ⟨i, .inl ⟨⟨_, _, e, rfl⟩, e2⟩⟩)), w.2⟩, c⟩
    | io d => obtain ⟨a, e2, n, w, c⟩ := q; exact ⟨a, e2, n, ⟨.inr (List.mem_append_right _ (mem_ownAs.mpr ⟨i, .inl ⟨⟨_, _, e, rfl⟩, e2⟩⟩)), w.2⟩, c⟩
    | lock b d => obtain ⟨a, e2, n, w, c⟩ := q; exact ⟨a, e2, n, ⟨⟨.inr (List.mem_append_right _ (mem_ownAs.mpr ⟨i, .inl ⟨⟨_, _, e, rfl⟩, e2⟩⟩)), w.1.2⟩, w.2⟩, c⟩
    | exc _ _ _ => exact q
    | al _ _ => trivial
    | sh ls ks =>
      obtain ⟨b, xs, h1, h2, K, w⟩ := q
      exact ⟨b, xs, h1, h2, K, fun a ka => .inr (List.mem_append_right _ (mem_ownAs.mpr ⟨i, .inr ⟨ls, ks, b, xs, e, h1, h2, ka⟩⟩))⟩
  apart := G.apart
  len := G.len
  als := G.als
theorem Good.unA (G : Good g B F H σ sl) {a : Addr} (h : (reB B F H σ sl).H0 a = none ∨ a ∈ (reB B F H σ sl).A) : B.H0 a = none ∨ a ∈ B.A := by
  rcases h with h | h
  · exact .inl (G.freshH0 h)
  · rcases List.mem_append.mp h with h | h
    · exact .inr h
    · obtain ⟨i, m⟩ := mem_ownAs.mp h
      exact G.mineOwn m
theorem Good.unbase {σ' : St} (G : Good g B F H σ sl) (G' : Good g (reB B F H σ sl) F' H' σ' sl') : Good g B F' H' σ' sl' where
  sub := G'.sub
  ext := G.ext.trans G'.ext
  new := fun a o h n => by
    cases q : F a with
    | some u => exact G.new a u q n
    | none => exact G.unA (G'.new a o h q)
  keep := fun a o h n => by
    have hH := G.keep a o h n
    refine G'.keep a o hH fun m => ?_
    rcases G.unA (.inr m) with z | z
    · rw [h] at z; cases z
    · exact n z
  live := fun a h => G'.live a (List.mem_append_left _ h)
  slot := fun i s e => by
    have q := G'.slot i s e
    cases s with
    | emp => trivial
    | val d => exact q
    | own d => obtain ⟨a, e2, n, w, c⟩ := q; exact ⟨a, e2, n, ⟨G.unA w.1, w.2⟩, c⟩
    | io d => obtain ⟨a, e2, n, w, c⟩ := q; exact ⟨a, e2, n, ⟨G.unA w.1, w.2⟩, c⟩
    | lock b d => obtain ⟨a, e2, n, w, c⟩ := q; exact ⟨a, e2, n, ⟨⟨G.unA w.1.1, w.1.2⟩, w.2⟩, c⟩
    | exc _ _ _ => exact q
    | al _ _ => trivial
    | sh ls ks => obtain ⟨b, xs, h1, h2, K, w⟩ := q; exact ⟨b, xs, h1, h2, K, fun a ka => G.unA (w a ka)⟩
  apart := G'.apart
  len := G'.len
  als := G'.als
/-- .. and what is not one's own is kept -/
theorem Good.kept {σ' : St} (G : Good g B F H σ sl) (G' : Good g (reB B F H σ sl) F' H' σ' sl') {a : Addr} {o : HO} (h : H a = some o) (n : a ∉ B.A) (nm : ∀ i b, Mine F σ sl i b → b ≠ a) : H' a = some o :=
  G'.keep a o h fun m => by
    rcases List.mem_append.mp m with z | z
    · exact n z
    · obtain ⟨i, m⟩ := mem_ownAs.mp z
      exact nm i a m rfl
theorem AVOk.unbase {σ' : St} {a : AV} (G : Good g B F H σ sl) (h : AVOk g (reB B F H σ sl) F' H' σ' sl' v a) : AVOk g B F' H' σ' sl' v a := by
  cases a with
  | v d => exact h
  | s i => exact h
  | p _ _ => exact h
  | n d => obtain ⟨q, e, n, n0, r⟩ := h; exact ⟨q, e, n, G.freshH0 n0, r⟩
  | t ls ks => obtain ⟨q, xs, e, h1, h0, K, w⟩ := h; exact ⟨q, xs, e, h1, G.freshH0 h0, K, fun a ka => ⟨G.freshH0 (w a ka).1, (w a ka).2⟩⟩
end base

/-! ### statements -/
def sSkip : SM := fun sl => .nx sl
def sBreak : SM := fun sl => .brk sl
def sCont : SM := fun sl => .cnt sl
def sSeq (a b : SM) : SM := fun sl => match a sl with
  | .nx sl' => b sl'
  | r => r
def sExpr (m : EM) : SM := fun sl => match m sl with
  | .ok _ sl' => .nx sl'
  | .err c ns vs sl' => .err c ns vs sl'
  | .bad => .bad
def sRet (m : EM) : SM := fun sl => match m sl with
  | .ok a sl' => .ret a sl'
  | .err c ns vs sl' => .err c ns vs sl'
  | .bad => .bad
def sRetN : SM := fun sl => .ret (.v .non) sl
def sIf (t : TM) (a b : SM) : SM := fun sl => match t sl with
  | .ok true sl' => a sl'
  | .ok false sl' => b sl'
  | .err c ns vs sl' => .err c ns vs sl'
  | .bad => .bad
def setV (i : Nat) (a : AV) (sl : List Slot) : SR := match frz a with
  | .v d => if storable sl i then .nx (sl.set i (.val d)) else .bad
  | _ => .bad
def setO (i : Nat) (a : AV) (sl : List Slot) : SR := match a with
  | .n d => if storable sl i then .nx (sl.set i (.own d)) else .bad
  | _ => .bad
def sStore (put : AV → List Slot → SR) (m : EM) : SM := fun sl => match m sl with
  | .ok a sl' => put a sl'
  | .err c ns vs sl' => .err c ns vs sl'
  | .bad => .bad
/-- name = e: a value; an object of one's own -/
def sSet (i : Nat) (m : EM) : SM := sStore (setV i) m
def sOwn (i : Nat) (m : EM) : SM := sStore (setO i) m

section stm
variable {cA : Nat → Addr} {X : Cx} {g : G0} {B : Base} {W : WX} {F F' H H' : Hp} {σ : St} {sl sl' : List Slot} {Q : VK} {D : Ends}
theorem skip_imp (h : tS g B W sSkip D σ H) : tNext D σ H := by
  obtain ⟨F, sl, G, p⟩ := h
  exact p σ F H (.refl _) G
theorem brk_imp (h : tS g B W sBreak D σ H) : tBreak D σ H := by
  obtain ⟨F, sl, G, p⟩ := h
  exact p σ F H (.refl _) G
theorem cnt_imp (h : tS g B W sCont D σ H) : tCont D σ H := by
  obtain ⟨F, sl, G, p⟩ := h
  exact p σ F H (.refl _) G
theorem seq_imp {a b : SM} (h : tS g B W (sSeq a b) D σ H) : tSeq (tS g B W a) (tS g B W b) D σ H := by
  obtain ⟨F, sl, G, p⟩ := h
  refine ⟨F, sl, G, ?_⟩
  unfold sSeq at p
  cases e : a sl with
  | nx sl' =>
    rw [e] at p
    exact fun σ' F' H' le G' => ⟨F', sl', G', PostS.le p le⟩
  | brk sl' => rw [e] at p; exact p
  | cnt sl' => rw [e] at p; exact p
  | ret v sl' => rw [e] at p; exact p
  | retM ls ks sl' => rw [e] at p; exact p
  | err c ns vs sl' => rw [e] at p; exact p
  | bad => rw [e] at p; exact p
theorem expr_imp {m : EM} (h : tS g B W (sExpr m) D σ H) : tDrop (tE g B W m) D σ H := by
  obtain ⟨F, sl, G, p⟩ := h
  refine ⟨F, sl, G, ?_⟩
  unfold sExpr at p
  cases e : m sl with
  | ok a sl' => rw [e] at p; exact fun v F' H' le G' x => p σ F' H' le G'
  | err c ns vs sl' => rw [e] at p; exact p σ
  | bad => rw [e] at p; exact p
theorem ret_imp {m : EM} (h : tS g B W (sRet m) D σ H) : tRet (tE g B W m) D σ H := by
  obtain ⟨F, sl, G, p⟩ := h
  refine ⟨F, sl, G, ?_⟩
  unfold sRet at p
  cases e : m sl with
  | ok a sl' => rw [e] at p; exact fun v F' H' le G' x => p v σ F' H' le G' x
  | err c ns vs sl' => rw [e] at p; exact p σ
  | bad => rw [e] at p; exact p
theorem retN_imp (h : tS g B W sRetN D σ H) : tRetN D σ H := by
  obtain ⟨F, sl, G, p⟩ := h
  exact p .non σ F H (.refl _) G .non
theorem if_imp {t : TM} {a b : SM} (h : tS g B W (sIf t a b) D σ H) : tIfS (tT g B W t) (tS g B W a) (tS g B W b) D σ H := by
  obtain ⟨F, sl, G, p⟩ := h
  refine ⟨F, sl, G, ?_⟩
  unfold sIf at p
  cases e : t sl with
  | bad => rw [e] at p; exact p
  | err c ns vs sl' => rw [e] at p; exact p σ
  | ok k sl' =>
    rw [e] at p
    intro F' H' le G'
    cases k with
    | true => exact iteT ⟨F', sl', G', PostS.le p le⟩
    | false => exact iteF ⟨F', sl', G', PostS.le p le⟩
theorem storable_lt {i : Nat} (h : storable sl i = true) : i < sl.length := by
  unfold storable at h
  rw [Bool.and_eq_true] at h
  exact of_decide_eq_true h.1
theorem setV_out {i : Nat} {a : AV} {v : V} (G : Good g B F H σ sl) (x : AVOk g B F H σ sl v a) (p : PostS g B W F D (setV i a sl)) : D.nx (σ.set i (some v)) H := by
  obtain ⟨F2, le2, G2, x2⟩ := x.frz G
  unfold setV at p
  cases e : frz a with
  | v d =>
    rw [e] at p x2
    dsimp only at p
    by_cases h : storable sl i = true
    · simp only [h, if_true] at p; exact p _ F2 H le2 (G2.setVal (storable_lt h) x2)
    · simp only [h] at p; exact p.elim
  | _ => rw [e] at p; exact p.elim
theorem setO_out {i : Nat} {a : AV} {v : V} (G : Good g B F H σ sl) (x : AVOk g B F H σ sl v a) (p : PostS g B W F D (setO i a sl)) : D.nx (σ.set i (some v)) H := by
  cases a with
  | n d =>
    unfold setO at p
    by_cases h : storable sl i = true
    · simp only [h, if_true] at p; exact p _ F H (.refl _) (G.setOwn (storable_lt h) x)
    · simp only [h] at p; exact p.elim
  | _ => exact p.elim
/-- what is stored to a name -/
def PutOk (g : G0) (put : AV → List Slot → SR) (i : Nat) : Prop := ∀ (B : Base) (W : WX) (F H : Hp) (σ : St) (sl : List Slot) (D : Ends) (a : AV) (v : V), Good g B F H σ sl → AVOk g B F H σ sl v a → PostS g B W F D (put a sl) → D.nx (σ.set i (some v)) H
theorem putV {i : Nat} : PutOk g (setV i) i := fun _ _ _ _ _ _ _ _ _ G x p => setV_out G x p
theorem putO {i : Nat} : PutOk g (setO i) i := fun _ _ _ _ _ _ _ _ _ G x p => setO_out G x p
theorem store_imp {i : Nat} {put : AV → List Slot → SR} (po : PutOk g put i) {m : EM} (h : tS g B W (sStore put m) D σ H) : tAsg (tE g B W m) (gName i) D σ H := by
  obtain ⟨F, sl, G, p⟩ := h
  refine ⟨F, sl, G, ?_⟩
  unfold sStore at p
  cases e : m sl with
  | ok a sl' => rw [e] at p; exact fun v F' H' le G' x => po B W F' H' σ sl' D a v G' x (PostS.le p le)
  | err c ns vs sl' => rw [e] at p; exact p σ
  | bad => rw [e] at p; exact p.elim
theorem sss_nil : SSs cA X sSkip [] := ⟨fun _ _ _ => pss_nil.of fun _ _ _ h => skip_imp h⟩
theorem sss_cons {a b : SM} {s : Stmt} {r : List Stmt} (h1 : SS cA X a s) (h2 : SSs cA X b r) : SSs cA X (sSeq a b) (s :: r) := ⟨fun B W tk => (pss_cons (h1.run B W tk) (h2.run B W tk)).of fun _ _ _ h => seq_imp h⟩
theorem sss_one {a : SM} {s : Stmt} (h1 : SS cA X a s) : SSs cA X a [s] := ⟨fun B W tk => pss_one (h1.run B W tk)⟩
theorem ss_pass {pos : Pos} : SS cA X sSkip (.Pass pos) := ⟨fun _ _ _ => ps_pass.of fun _ _ _ h => skip_imp h⟩
theorem ss_break {pos : Pos} : SS cA X sBreak (.Break pos) := ⟨fun _ _ _ => ps_break.of fun _ _ _ h => brk_imp h⟩
theorem ss_cont {pos : Pos} : SS cA X sCont (.Continue pos) := ⟨fun _ _ _ => ps_continue.of fun _ _ _ h => cnt_imp h⟩
theorem ss_expr {m : EM} {e : Expr} {pos : Pos} (h : SE cA X m e) (hs : swapsWith e none pos.line X.env = pure false := by rfl) : SS cA X (sExpr m) (.Expr e pos) := ⟨fun B W tk => (ps_expr (h.run B W tk) hs).of fun _ _ _ h => expr_imp h⟩
theorem ss_ret {m : EM} {e : Expr} {pos : Pos} (h : SE cA X m e) : SS cA X (sRet m) (.Return (some e) pos) := ⟨fun B W tk => (ps_ret (h.run B W tk)).of fun _ _ _ h => ret_imp h⟩
theorem ss_retN {pos : Pos} : SS cA X sRetN (.Return none pos) := ⟨fun B W tk => ps_retN.of fun _ _ _ h => retN_imp h⟩
theorem ss_if {t : TM} {m k : SM} {c : Expr} {a b : List Stmt} {pos : Pos} (hc : ST cA X t c) (ha : SSs cA X m a) (hb : SSs cA X k b) : SS cA X (sIf t m k) (.If c a b pos) :=
  ⟨fun B W tk => (ps_if (hc.run B W tk) (ha.run B W tk) (hb.run B W tk)).of fun _ _ _ h => if_imp h⟩
theorem ss_store {i : Nat} {put : AV → List Slot → SR} (po : PutOk (gx X cA) put i) {m : EM} {x : Str} {e : Expr} {pos pos' : Pos} (hN : X.N.Nodup) (hi : X.N[i]? = some x) (hx : Loc X.env.scope x) (he : SE cA X m e) (hs : swapsWith e (some (.Name x pos')) pos.line X.env = pure false := by rfl) (hf : X.fn x = true ∨ X.env.scope.names.lookup x = some .local := by first | exact .inl rfl | exact .inr rfl | assumption) :
    SS cA X (sStore put m) (.Assign [.Name x pos'] e pos) := ⟨fun B W tk => (ps_set hN hi hx (he.run B W tk) hs hf).of fun _ _ _ h => store_imp po h⟩
theorem ss_set {i : Nat} {m : EM} {x : Str} {e : Expr} {pos pos' : Pos} (hN : X.N.Nodup) (hi : X.N[i]? = some x) (hx : Loc X.env.scope x) (he : SE cA X m e) (hs : swapsWith e (some (.Name x pos')) pos.line X.env = pure false := by rfl) (hf : X.fn x = true ∨ X.env.scope.names.lookup x = some .local := by first | exact .inl rfl | exact .inr rfl | assumption) :
    SS cA X (sSet i m) (.Assign [.Name x pos'] e pos) := ss_store putV hN hi hx he hs hf
theorem ss_own {i : Nat} {m : EM} {x : Str} {e : Expr} {pos pos' : Pos} (hN : X.N.Nodup) (hi : X.N[i]? = some x) (hx : Loc X.env.scope x) (he : SE cA X m e) (hs : swapsWith e (some (.Name x pos')) pos.line X.env = pure false := by rfl) (hf : X.fn x = true ∨ X.env.scope.names.lookup x = some .local := by first | exact .inl rfl | exact .inr rfl | assumption) :
    SS cA X (sOwn i m) (.Assign [.Name x pos'] e pos) := ss_store putO hN hi hx he hs hf
end stm

/-! ### a method that changes a list of one's own; o[i] = e -/
/-- x.m(..): x in slot i, the arguments' values (true: their contents) -/
def isLst : D → Bool
  | .lst _ => true
  | _ => false
def eMut (i : Nat) (f : D → List D → Option (D × D)) (l : LM) : EM := fun sl => match (sl[i]?).bind mutD with
  | some d0 => if isLst d0 then (match l sl with
    | .ok as sl' => (match sl'[i]?, vals as with
      | some s, some ds => (match mutD s with
        | some d => if isLst d then (match f d ds with
          | some (d', r) => .ok (.v r) (sl'.set i (reD s d'))
          | none => .bad) else .bad
        | none => .bad)
      | _, _ => .bad)
    | .err c ns vs sl' => .err c ns vs sl'
    | .bad => .bad) else .bad
  | none => .bad
def MutSim (g : G0) (r : V → List V → Hp → VK → Prop) (f : D → List D → Option (D × D)) : Prop :=
  ∀ (F H : Hp) (a : Addr) (d : D) (vs : List V) (ds : List D) (d' res : D) (Q : VK), Le F H → F a = none → CellAt g F H a d → Reps g F vs ds → f d ds = some (d', res) → (∀ o v, CellAt g F (upd H a o) a d' → Rep g F v res → Q v (upd H a o)) → r (.ref a) vs H Q
section muts
variable {cA : Nat → Addr} {X : Cx} {g : G0} {B : Base} {W : WX} {F F' H H' : Hp} {σ : St} {sl sl' : List Slot} {Q : VK} {D : Ends}
theorem mut_imp {i : Nat} {r : V → List V → Hp → VK → Prop} {f : Za.D → List Za.D → Option (Za.D × Za.D)} {l : LM} (sim : MutSim g r f) (h : tE g B W (eMut i f l) σ H Q) : tBM g.K "list" r (tVar i) (tL g B W l) σ H Q := by
  obtain ⟨F, sl, G, p⟩ := h
  unfold eMut at p
  cases e0 : (sl[i]?).bind mutD with
  | none => rw [e0] at p; exact p.elim
  | some d0 =>
    simp only [e0] at p
    obtain ⟨s0, h0, hm0⟩ := Option.bind_eq_some_iff.mp e0
    obtain ⟨a, m0, ha, nF, c0⟩ := G.mineAt h0 (mine_of_mut hm0)
    by_cases hl : isLst d0 = true
    · simp only [hl, if_true] at p
      refine ⟨.ref a, ha, ?_, F, sl, G, ?_⟩
      · cases c0 with
        | lst hh rr => exact .inl ⟨rfl, _, SqL.of hh⟩
        | _ => cases hl
      · cases e : l sl with
        | bad => simp only [e] at p; exact p
        | err c ns vs sl' => simp only [e] at p; exact p
        | ok as sl' =>
          simp only [e] at p
          intro vs F' H' le G' xs
          cases e1 : sl'[i]? with
          | none => simp only [e1] at p; exact p.elim
          | some s =>
            cases e2 : vals as with
            | none => simp only [e1, e2] at p; exact p.elim
            | some ds =>
              simp only [e1, e2] at p
              cases e3 : mutD s with
              | none => simp only [e3] at p; exact p.elim
              | some d =>
                simp only [e3] at p
                by_cases hl2 : isLst d = true
                · simp only [hl2, if_true] at p
                  cases e4 : f d ds with
                  | none => simp only [e4] at p; exact p.elim
                  | some dr =>
                    obtain ⟨d', res⟩ := dr
                    simp only [e4] at p
                    obtain ⟨a', m', ha', nF', c'⟩ := G'.mineAt e1 (mine_of_mut e3)
                    rw [ha] at ha'
                    cases ha'
                    exact sim F' H' a d vs ds d' res Q G'.sub nF' c' (vals_ok xs e2) e4 fun o v c r => p v F' (upd H' a o) le (G'.mutate e1 e3 ha c) r
                · simp only [hl2] at p; exact p.elim
    · simp only [hl] at p; exact p.elim
theorem se_mut {i : Nat} {r : V → List V → Hp → VK → Prop} {f : Za.D → List Za.D → Option (Za.D × Za.D)} {l : LM} {E : Expr} {es : List Expr} (sim : MutSim (gx X cA) r f)
    (pe : ∀ t, PA X es t → PE X E (tBM X.K "list" r (tVar i) t)) (ha : SL cA X l es) : SE cA X (eMut i f l) E :=
  ⟨fun B W tk => (pe _ (ha.run B W tk)).of fun _ _ _ h => mut_imp sim h⟩
theorem mut0_imp {i : Nat} {r : V → List V → Hp → VK → Prop} {f : Za.D → List Za.D → Option (Za.D × Za.D)} (sim : MutSim g r f) (h : tE g B W (eMut i f lNil) σ H Q) : tBM0 g.K "list" r (tVar i) σ H Q := by
  obtain ⟨v, hv, ty, q⟩ := mut_imp sim h
  exact ⟨v, hv, ty, lNil_imp q⟩
theorem se_mut0 {i : Nat} {r : V → List V → Hp → VK → Prop} {f : Za.D → List Za.D → Option (Za.D × Za.D)} {E : Expr} (sim : MutSim (gx X cA) r f)
    (pe : PE X E (tBM0 X.K "list" r (tVar i))) : SE cA X (eMut i f lNil) E :=
  ⟨fun B W tk => pe.of fun _ _ _ h => mut0_imp sim h⟩
end muts
end Za
end
section
set_option Elab.async false
set_option linter.all false
set_option maxRecDepth 100000
set_option maxHeartbeats 2000000
namespace Za
open PySem PySem.Spec PyProof.Rows L2

/-! ### o[i] = e, o a list of one's own -/
/-- change the object of slot i -/
def putMut (i : Nat) (f : D → Option D) (sl : List Slot) : SR := match sl[i]? with
  | some s => (match mutD s with
    | some d => (match f d with
      | some d' => .nx (sl.set i (reD s d'))
      | none => .bad)
    | none => .bad)
  | none => .bad
def isMut (sl : List Slot) (i : Nat) : Bool := match sl[i]? with
  | some s => (mutD s).isSome
  | none => false
def setAt (k d : D) : D → Option D
  | .lst ds => (match k with
    | .int k => (ixN ds.length k).map fun j => .lst (ds.set j d)
    | _ => none)
  | _ => none
def itemK (i : Nat) (ix : EM) (st : D → D → D → Option D) (d : D) : SM := fun sl => if isMut sl i then (match ix sl with
    | .ok y sl2 => (match cont sl2 y with
      | some k => putMut i (st k d) sl2
      | none => .bad)
    | .err c ns vs sl' => .err c ns vs sl'
    | .bad => .bad) else .bad
def sItem (i : Nat) (ix m : EM) : SM := fun sl => match m sl with
  | .ok a sl1 => (match frz a with
    | .v d => itemK i ix setAt d sl1
    | _ => .bad)
  | .err c ns vs sl' => .err c ns vs sl'
  | .bad => .bad
section item
variable {cA : Nat → Addr} {X : Cx} {g : G0} {B : Base} {W : WX} {F F' H H' : Hp} {σ : St} {sl sl' : List Slot} {Q : VK} {D : Ends}
theorem item_imp {i : Nat} {ix m : EM} (h : tS g B W (sItem i ix m) D σ H) : tAsg (tE g B W m) (gSub (tVar i) (tE g B W ix) rSetL) D σ H := by
  obtain ⟨F, sl, G, p⟩ := h
  refine ⟨F, sl, G, ?_⟩
  unfold sItem at p
  cases e : m sl with
  | bad => rw [e] at p; exact p
  | err c ns vs sl' => rw [e] at p; exact p σ
  | ok a sl1 =>
    rw [e] at p
    intro v F1 H1 le1 G1 x
    obtain ⟨F2, le2, G2, x2⟩ := x.frz G1
    dsimp only at p
    cases ea : frz a with
    | s j => rw [ea] at p; exact p.elim
    | n d => rw [ea] at p; exact p.elim
    | t _ _ => rw [ea] at p; exact p.elim
    | p _ _ => rw [ea] at p; exact p.elim
    | v d =>
      rw [ea] at p x2
      dsimp only at p
      unfold itemK at p
      by_cases hm : isMut sl1 i = true
      · rw [if_pos hm] at p
        unfold isMut at hm
        cases es : sl1[i]? with
        | none => rw [es] at hm; cases hm
        | some s =>
          rw [es] at hm
          dsimp only at hm
          obtain ⟨d0, hd0⟩ := Option.isSome_iff_exists.mp hm
          obtain ⟨ad, m0, ha, nF0, c0⟩ := G2.mineAt es (mine_of_mut hd0)
          refine ⟨.ref ad, ha, F2, sl1, G2, ?_⟩
          cases e2 : ix sl1 with
          | bad => rw [e2] at p; exact p
          | err c ns vs sl' => rw [e2] at p; exact PostX.le (p σ) (le1.trans le2)
          | ok y sl2 =>
            rw [e2] at p
            dsimp only at p
            intro w F3 H3 le3 G3 y3
            cases e3 : cont sl2 y with
            | none => rw [e3] at p; exact p.elim
            | some k =>
              rw [e3] at p
              dsimp only at p
              unfold putMut at p
              cases e4 : sl2[i]? with
              | none => rw [e4] at p; exact p.elim
              | some s2 =>
                rw [e4] at p
                dsimp only at p
                cases e5 : mutD s2 with
                | none => rw [e5] at p; exact p.elim
                | some dd =>
                  rw [e5] at p
                  dsimp only at p
                  cases e6 : setAt k d dd with
                  | none => rw [e6] at p; exact p.elim
                  | some d' =>
                    rw [e6] at p
                    obtain ⟨ad', m', ha', nF, c⟩ := G3.mineAt e4 (mine_of_mut e5)
                    rw [ha] at ha'; cases ha'
                    cases dd with
                    | lst ds =>
                      cases k with
                      | int k =>
                        obtain ⟨j, hj, ej⟩ := Option.map_eq_some_iff.mp e6
                        subst ej
                        cases c with
                        | lst hh rr =>
                          exact ⟨ad, _, k, j, rfl, (y3.cont G3 e3).int, hh, by rw [rr.length]; exact hj, p σ F3 _ ((le1.trans le2).trans le3) (G3.mutate e4 e5 ha (.lst upd_same (Reps.set j (Rep.mono le3 x2) rr)))⟩
                      | _ => cases e6
                    | _ => cases e6
      · rw [if_neg hm] at p; exact p.elim
theorem ss_item {i : Nat} {ix m : EM} {x : Str} {e k : Expr} {px ps pos : Pos} (hv : PE X (.Name x px) (tVar i)) (hk : SE cA X ix k) (he : SE cA X m e)
    (pe : ∀ te ti, PE X e te → PE X k ti → PS X (.Assign [.Subscript (.Name x px) k ps] e pos) (tAsg te (gSub (tVar i) ti rSetL))) : SS cA X (sItem i ix m) (.Assign [.Subscript (.Name x px) k ps] e pos) :=
  ⟨fun B W tk => (pe _ _ (he.run B W tk) (hk.run B W tk)).of fun _ _ _ h => item_imp h⟩
end item

/-! ### targets -/
abbrev BM := D → List Slot → Option (List Slot)
def bName (i : Nat) : BM := fun d sl => if storable sl i then some (sl.set i (.val d)) else none
def bAll : List BM → List D → List Slot → Option (List Slot)
  | [], [], sl => some sl
  | b :: bs, d :: ds, sl => (b d sl).bind (bAll bs ds)
  | _, _, _ => none
def bTup (bs : List BM) : BM := fun d sl => match d with
  | .tup ds => bAll bs ds sl
  | _ => none
def BOk (g : G0) (t : TG) (b : BM) : Prop := ∀ (B : Base) (F H : Hp) (σ : St) (sl sl' : List Slot) (v : V) (d : D) (Q : St → Hp → Prop), Good g B F H σ sl → Rep g F v d → b d sl = some sl' → (∀ σ', Good g B F H σ' sl' → Q σ' H) → t v σ H Q
def BOks (g : G0) (t : TGs) (b : List BM) : Prop := ∀ (B : Base) (F H : Hp) (σ : St) (sl sl' : List Slot) (vs : List V) (ds : List D) (Q : St → Hp → Prop), Good g B F H σ sl → Reps g F vs ds → bAll b ds sl = some sl' → (∀ σ', Good g B F H σ' sl' → Q σ' H) → t vs σ H Q
section targ
variable {g : G0}
theorem b_name {i : Nat} : BOk g (gName i) (bName i) := fun B F H σ sl sl' v d Q G r e q => by
  unfold bName at e
  by_cases h : storable sl i = true
  · rw [if_pos h] at e; cases e; exact q _ (G.setVal (storable_lt h) r)
  · rw [if_neg h] at e; cases e
theorem b_nil : BOks g gNil [] := fun B F H σ sl sl' vs ds Q G r e q => by
  cases r with
  | nil => cases e; exact ⟨rfl, q σ G⟩
  | cons _ _ => cases e
theorem b_cons {t : TG} {u : TGs} {b : BM} {bs : List BM} (h1 : BOk g t b) (h2 : BOks g u bs) : BOks g (gCons t u) (b :: bs) := fun B F H σ sl sl' vs ds Q G r e q => by
  cases r with
  | nil => cases e
  | cons r rr =>
    obtain ⟨s1, e1, e2⟩ := Option.bind_eq_some_iff.mp e
    exact ⟨_, _, rfl, h1 B F H σ sl s1 _ _ _ G r e1 fun σ' G' => h2 B F H σ' s1 sl' _ _ Q G' rr e2 q⟩
theorem b_tup {u : TGs} {bs : List BM} {n : Nat} (h : BOks g u bs) (hn : bs.length = n) : BOk g (gTup g.K n u) (bTup bs) := fun B F H σ sl sl' v d Q G r e q => by
  unfold bTup at e
  cases d with
  | tup ds =>
    cases r with
    | tup hs rr =>
      refine ⟨_, _, rfl, le_t G.sub hs, ?_, h B F H σ sl sl' _ _ Q G rr e q⟩
      rw [rr.length]
      have all : ∀ (bs : List BM) (ds : List D) (sl sl' : List Slot), bAll bs ds sl = some sl' → ds.length = bs.length := by
        intro bs
        induction bs with
        | nil => intro ds sl sl' e; cases ds with
          | nil => rfl
          | cons _ _ => cases e
        | cons b bs ih => intro ds sl sl' e; cases ds with
          | nil => cases e
          | cons d ds =>
            obtain ⟨s1, e1, e2⟩ := Option.bind_eq_some_iff.mp e
            rw [List.length_cons, List.length_cons, ih _ _ _ e2]
      rw [all bs ds sl sl' e, hn]
  | _ => cases e
end targ

/-! ### what a loop walks -/
inductive IR where
  /-- the items; the slot of the list that is walked, if it is one's own -/
  | ok (ds : List D) (lk : Option Nat) (sl : List Slot) | err (c : Nat) (ns : List Str) (vs : List D) (sl : List Slot) | bad
abbrev IM := List Slot → IR
def lkIs (k : Nat) (ds : List D) (sl : List Slot) : Bool := match sl[k]? with
  | some (.lock _ d) => D.eqb d (.lst ds)
  | _ => false
def lkOk (lk : Option Nat) (ds : List D) (sl : List Slot) : Bool := match lk with
  | none => true
  | some k => lkIs k ds sl
/-- J walks ds: from F1 on, the slot lk locked -/
def Walk (g : G0) (B : Base) (J : It) (F1 : Hp) (ds : List D) (lk : Option Nat) : Prop :=
  ∀ (i : Nat) (F H : Hp) (σ : St) (sl : List Slot), Good g B F H σ sl → Le F1 F → lkOk lk ds sl = true →
    (∀ d, ds[i]? = some d → J.go i H ∧ ∀ x H', J.yld i H x H' → ∃ F', Ext F H F' H' ∧ Rep g F' x d) ∧ (i = ds.length → J.stop i H)
def lockS : Slot → Option Slot
  | .own d => some (.lock false d)
  | .io d => some (.lock true d)
  | _ => none
def lkB (B : Base) (k : Nat) (a : Addr) : Base := { B with lk := fun j => if j = k then some a else B.lk j }
theorem lkB_ex {B : Base} {k : Nat} {a : Addr} : (lkB B k a).ex = B.ex := rfl
section lock
variable {g : G0} {B : Base} {F F' H H' : Hp} {σ : St} {sl sl' : List Slot}
theorem mine_set {k : Nat} {s s' : Slot} {d : D} (h1 : sl[k]? = some s) (h2 : mineD s = some d) (h3 : ∀ (ls : Bool) (ks : List Kid), s' ≠ .sh ls ks) {j : Nat} {b : Addr} (m : Mine F σ (sl.set k s') j b) : Mine F σ sl j b := by
  have hk : k < sl.length := (List.getElem?_eq_some_iff.mp h1).1
  by_cases ne : j = k
  · subst ne
    rcases m with m | ⟨ls, ks, q, xs, q1, _⟩
    · exact .inl ⟨⟨s, d, h1, h2⟩, m.2⟩
    · rw [List.getElem?_set_self hk] at q1
      exact absurd (Option.some.inj q1) (h3 ls ks)
  · rcases m with ⟨⟨t, d2, q1, q2⟩, q3⟩ | ⟨ls, ks, q, xs, q1, q2⟩
    · rw [List.getElem?_set_ne (Ne.symm ne)] at q1
      exact .inl ⟨⟨t, d2, q1, q2⟩, q3⟩
    · rw [List.getElem?_set_ne (Ne.symm ne)] at q1
      exact .inr ⟨ls, ks, q, xs, q1, q2⟩
theorem als_set {k : Nat} {s' : Slot} (hk : k < sl.length) (A : Als F σ sl) (h3 : ∀ (ls : Bool) (ks : List Kid), s' ≠ .sh ls ks) (h4 : ∀ i j : Nat, s' ≠ .al i j) : Als F σ (sl.set k s') := fun i j l ls ks e1 e2 => by
  by_cases n1 : i = k
  · subst n1
    rw [List.getElem?_set_self hk] at e1
    exact absurd (Option.some.inj e1) (h4 j l)
  · by_cases n2 : j = k
    · subst n2
      rw [List.getElem?_set_self hk] at e2
      exact absurd (Option.some.inj e2) (h3 ls ks)
    · rw [List.getElem?_set_ne (Ne.symm n1)] at e1
      rw [List.getElem?_set_ne (Ne.symm n2)] at e2
      exact A i j l ls ks e1 e2
theorem Good.lock (G : Good g B F H σ sl) {k : Nat} {s s' : Slot} {a : Addr} (h1 : sl[k]? = some s) (h2 : lockS s = some s') (h3 : σ[k]? = some (some (.ref a))) : Good g (lkB B k a) F H σ (sl.set k s') := by
  have hk : k < sl.length := (List.getElem?_eq_some_iff.mp h1).1
  have n1 : ∀ (ls : Bool) (ks : List Kid), s' ≠ .sh ls ks := fun ls ks z => by subst z; cases s <;> cases h2
  have n2 : ∀ i j : Nat, s' ≠ .al i j := fun ls ks z => by subst z; cases s <;> cases h2
  have md : ∃ d, mineD s = some d := by cases s <;> first | exact ⟨_, rfl⟩ | cases h2
  obtain ⟨d0, hd0⟩ := md
  refine ⟨G.sub, G.ext, G.new, G.keep, G.live, fun j t e => ?_, fun i j a b ne m1 m2 => G.apart i j a b ne (mine_set h1 hd0 n1 m1) (mine_set h1 hd0 n1 m2), by rw [List.length_set]; exact G.len, als_set hk G.als n1 n2⟩
  by_cases ne : j = k
  · subst ne
    rw [List.getElem?_set_self hk] at e
    cases e
    have q := G.slot j s h1
    cases s with
    | own d => cases h2; obtain ⟨b, e, n, w, c⟩ := q; rw [h3] at e; cases e; exact ⟨a, h3, n, ⟨w, if_pos rfl⟩, c⟩
    | io d => cases h2; obtain ⟨b, e, n, w, c⟩ := q; rw [h3] at e; cases e; exact ⟨a, h3, n, ⟨w, if_pos rfl⟩, c⟩
    | _ => cases h2
  · rw [List.getElem?_set_ne (Ne.symm ne)] at e
    have q := G.slot j t e
    cases t with
    | lock b d => obtain ⟨c, e2, n, w, cc⟩ := q; exact ⟨c, e2, n, ⟨w.1, (if_neg ne).trans w.2⟩, cc⟩
    | emp => trivial
    | val d => exact q
    | own d => exact q
    | io d => exact q
    | exc _ _ _ => exact q
    | sh _ _ => exact q
    | al _ _ => trivial
theorem mine_unlk {k : Nat} {b : Bool} {d : D} (h1 : sl[k]? = some (.lock b d)) {j : Nat} {b' : Addr} (m : Mine F σ (sl.set k (if b then .io d else .own d)) j b') : Mine F σ sl j b' :=
  mine_set h1 rfl (fun ls ks z => by cases b <;> cases z) m
theorem Good.unlock {a : Addr} {k : Nat} {b : Bool} {d : D} (G : Good g (lkB B k a) F H σ sl) (h1 : sl[k]? = some (.lock b d)) : Good g B F H σ (sl.set k (if b then .io d else .own d)) := by
  have hk : k < sl.length := (List.getElem?_eq_some_iff.mp h1).1
  refine ⟨G.sub, G.ext, G.new, G.keep, G.live, fun j t e => ?_, fun i j a b ne m1 m2 => G.apart i j a b ne (mine_unlk h1 m1) (mine_unlk h1 m2), by rw [List.length_set]; exact G.len, als_set hk G.als (fun ls ks z => by cases b <;> cases z) fun i j z => by cases b <;> cases z⟩
  by_cases ne : j = k
  · subst ne
    rw [List.getElem?_set_self hk] at e
    cases e
    obtain ⟨c, e2, n, w, cc⟩ := G.slot j _ h1
    cases b with
    | true => exact ⟨c, e2, n, w.1, cc⟩
    | false => exact ⟨c, e2, n, w.1, cc⟩
  · rw [List.getElem?_set_ne (Ne.symm ne)] at e
    have q := G.slot j t e
    cases t with
    | emp => trivial
    | val d => exact q
    | own d => exact q
    | io d => exact q
    | lock b d => obtain ⟨c, e2, n, w, cc⟩ := q; exact ⟨c, e2, n, ⟨w.1, (if_neg ne).symm.trans w.2⟩, cc⟩
    | exc _ _ _ => exact q
    | sh _ _ => exact q
    | al _ _ => trivial
end lock

/-! ### for -/
def forL (ok : List Slot → Bool) (b : BM) (body : SM) : List D → SM
  | [], sl => .nx sl
  | d :: ds, sl => match b d sl with
    | none => .bad
    | some s1 => (match body s1 with
      | .nx s2 => if ok s2 then forL ok b body ds s2 else .bad
      | .cnt s2 => if ok s2 then forL ok b body ds s2 else .bad
      | .brk s2 => .nx s2
      | r => r)
def unlk (k : Nat) (sl : List Slot) : Option (List Slot) := match sl[k]? with
  | some (.lock b d) => some (sl.set k (if b then .io d else .own d))
  | _ => none
def unlR (k : Nat) : SR → SR
  | .nx sl => (match unlk k sl with | some s => .nx s | none => .bad)
  | .brk sl => (match unlk k sl with | some s => .brk s | none => .bad)
  | .cnt sl => (match unlk k sl with | some s => .cnt s | none => .bad)
  | .ret a sl => (match unlk k sl with | some s => .ret a s | none => .bad)
  | .retM _ _ _ => .bad
  | .err c ns vs sl => (match unlk k sl with | some s => .err c ns vs s | none => .bad)
  | .bad => .bad
def sFor (im : IM) (b : BM) (body : SM) : SM := fun sl => match im sl with
  | .ok ds none sl' => forL (fun _ => true) b body ds sl'
  | .ok ds (some k) sl' => (match sl'[k]? with
    | some (.lock _ _) => if lkIs k ds sl' then forL (lkIs k ds) b body ds sl' else .bad
    | some s => (match lockS s with
      | some s' => if lkIs k ds (sl'.set k s') then unlR k (forL (lkIs k ds) b body ds (sl'.set k s')) else .bad
      | none => .bad)
    | none => .bad)
  | .err c ns vs sl' => .err c ns vs sl'
  | .bad => .bad
/-- whatever the base, if it bears the lock -/
def WalkC (g : G0) (J : It) (F1 : Hp) (ds : List D) (lk : Option Nat) (σ : St) : Prop := ∀ B : Base, (∀ k, lk = some k → ∃ a, σ[k]? = some (some (.ref a)) ∧ B.lk k = some a) → Walk g B J F1 ds lk
def PostI (g : G0) (B : Base) (W : WX) (F : Hp) (σ : St) (R : It → Hp → Prop) : IR → Prop
  | .ok ds lk sl => ∀ J F' H', Le F F' → Good g B F' H' σ sl → WalkC g J F' ds lk σ → R J H'
  | .err c ns vs sl => PostX g B W F σ c ns vs sl
  | .bad => False
structure SI (cA : Nat → Addr) (X : Cx) (im : IM) (tg iter : Expr) : Prop where
  run : ∀ (B : Base) (W : WX), Tk X B W → ∃ wi : TI, PI X tg iter wi ∧ ∀ σ H R, (∃ F sl, Good (gx X cA) B F H σ sl ∧ PostI (gx X cA) B W F σ R (im sl)) → wi σ H R

section loop
variable {cA : Nat → Addr} {X : Cx} {g : G0} {B : Base} {W : WX} {F F' H H' : Hp} {σ : St} {sl sl' : List Slot} {Q : VK} {D : Ends}
theorem SSs.any {m : SM} {s : List Stmt} (h : SSs cA X m s) (W : WX) (tk : Tk X B W) : PSs X s (fun D σ H => ∃ B', B'.ex = B.ex ∧ tS (gx X cA) B' W m D σ H) := ⟨fun p s σ H D I ⟨B', e, w⟩ => (h.run B' W ⟨fun q z => tk.b q (e.symm.trans z), tk.t⟩).run p s σ H D I w⟩
theorem for_core {J : It} {t : TG} {b : BM} {body : SM} (hb : BOk g t b) {F1 H1 : Hp} {ds : List Za.D} {lk : Option Nat} {ok : List Slot → Bool} (hok : ∀ s, ok s = true → lkOk lk ds s = true) (G : Good g B F1 H1 σ sl) (wk : Walk g B J F1 ds lk) (l1 : lkOk lk ds sl = true)
    (p : PostS g B W F1 D (forL ok b body ds sl)) : ∃ Wf : Nat → Nat → St → Hp → Prop, (∃ m, Wf 0 m σ H1) ∧ ∀ i m σ H, Wf i m σ H →
      (J.stop i H ∧ D.nx σ H) ∨ (J.go i H ∧ ∃ N : St → Hp → Prop, (∀ σ' H', N σ' H' → ∃ m', m' < m ∧ Wf (i + 1) m' σ' H') ∧ ∀ x H', J.yld i H x H' → t x σ H' fun σ2 H2 => (fun D σ H => ∃ B', B'.ex = B.ex ∧ tS g B' W body D σ H) { D with nx := N, ct := N, bk := D.nx } σ2 H2) := by
  refine ⟨fun i m σ H => m = ds.length - i ∧ i ≤ ds.length ∧ ∃ F sl, Good g B F H σ sl ∧ Le F1 F ∧ lkOk lk ds sl = true ∧ PostS g B W F D (forL ok b body (ds.drop i) sl), ⟨_, rfl, Nat.zero_le _, F1, sl, G, .refl _, l1, p⟩, ?_⟩
  rintro i m σ H ⟨rfl, hi, F, sl, G, le, l, p⟩
  by_cases hlt : i < ds.length
  · right
    have ed : ds.drop i = ds[i] :: ds.drop (i + 1) := List.drop_eq_getElem_cons hlt
    rw [ed] at p
    unfold forL at p
    obtain ⟨go, yl⟩ := (wk i F H σ sl G le l).1 ds[i] (by simp [hlt])
    cases eb : b ds[i] sl with
    | none => rw [eb] at p; exact p.elim
    | some s1 =>
      rw [eb] at p
      dsimp only at p
      refine ⟨go, fun σ' H' => ds.length - (i + 1) = ds.length - (i + 1) ∧ i + 1 ≤ ds.length ∧ ∃ F sl, Good g B F H' σ' sl ∧ Le F1 F ∧ lkOk lk ds sl = true ∧ PostS g B W F D (forL ok b body (ds.drop (i + 1)) sl), fun σ' H' q => ⟨_, by omega, q⟩, fun x H' y => ?_⟩
      obtain ⟨F', x', r⟩ := yl x H' y
      refine hb B F' H' σ sl s1 x _ _ (G.ext' x') r eb fun σ2 G2 => ⟨B, rfl, F', s1, G2, ?_⟩
      cases er : body s1 with
      | bad => rw [er] at p; exact p
      | err c ns vs s2 => rw [er] at p; exact PostS.le p x'.f
      | ret a s2 => rw [er] at p; exact PostS.le (r := .ret a s2) p x'.f
      | retM ls ks s2 => rw [er] at p; exact PostS.le (r := .retM ls ks s2) p x'.f
      | brk s2 => rw [er] at p; exact fun σ3 F3 H3 le3 G3 => p σ3 F3 H3 (x'.f.trans le3) G3
      | nx s2 =>
        rw [er] at p
        dsimp only at p
        by_cases ho : ok s2 = true
        · rw [if_pos ho] at p
          exact fun σ3 F3 H3 le3 G3 => ⟨rfl, hlt, F3, s2, G3, (le.trans x'.f).trans le3, hok _ ho, PostS.le p (x'.f.trans le3)⟩
        · rw [if_neg ho] at p; exact p.elim
      | cnt s2 =>
        rw [er] at p
        dsimp only at p
        by_cases ho : ok s2 = true
        · rw [if_pos ho] at p
          exact fun σ3 F3 H3 le3 G3 => ⟨rfl, hlt, F3, s2, G3, (le.trans x'.f).trans le3, hok _ ho, PostS.le p (x'.f.trans le3)⟩
        · rw [if_neg ho] at p; exact p.elim
  · have e : i = ds.length := by omega
    subst e
    rw [List.drop_length] at p
    exact .inl ⟨(wk _ F H σ sl G le l).2 rfl, p σ F H (.refl _) G⟩
theorem unl_post {k : Nat} {a : Addr} {r : SR} (p : PostS g B W F D (unlR k r)) : PostS g (lkB B k a) W F D r := by
  have av : ∀ {v : V} {x : AV} {F' H' : Hp} {σ : St} {sl : List Slot} {b : Bool} {d : Za.D}, sl[k]? = some (.lock b d) → AVOk g (lkB B k a) F' H' σ sl v x → AVOk g B F' H' σ (sl.set k (if b then .io d else .own d)) v x := fun {v x F' H' σ sl b d} h h2 => by
    cases x with
    | v _ => exact h2
    | s _ => exact h2
    | p _ _ => exact h2
    | n _ => obtain ⟨q, e, n, n0, nm, c⟩ := h2; exact ⟨q, e, n, n0, fun i b' m => nm i b' (mine_unlk h m), c⟩
    | t _ _ => obtain ⟨q, xs, e, h1, h0, K, w⟩ := h2; exact ⟨q, xs, e, h1, h0, K, fun a ka => ⟨(w a ka).1, fun i b' m => (w a ka).2 i b' (mine_unlk h m)⟩⟩
  have un : ∀ {sl s : List Slot}, unlk k sl = some s → ∃ b d, sl[k]? = some (.lock b d) ∧ s = sl.set k (if b then .io d else .own d) := fun {sl s} e => by
    unfold unlk at e
    cases q : sl[k]? with
    | none => rw [q] at e; cases e
    | some t =>
      rw [q] at e
      cases t with
      | lock b d => cases e; exact ⟨b, d, rfl, rfl⟩
      | _ => cases e
  cases r with
  | bad => exact p
  | retM _ _ _ => exact p.elim
  | nx sl =>
    cases e : unlk k sl with
    | none => simp only [unlR, e] at p; exact p.elim
    | some s =>
      simp only [unlR, e] at p
      obtain ⟨b, d, h, rfl⟩ := un e
      exact fun σ F' H' le G => p σ F' H' le (G.unlock h)
  | brk sl =>
    cases e : unlk k sl with
    | none => simp only [unlR, e] at p; exact p.elim
    | some s =>
      simp only [unlR, e] at p
      obtain ⟨b, d, h, rfl⟩ := un e
      exact fun σ F' H' le G => p σ F' H' le (G.unlock h)
  | cnt sl =>
    cases e : unlk k sl with
    | none => simp only [unlR, e] at p; exact p.elim
    | some s =>
      simp only [unlR, e] at p
      obtain ⟨b, d, h, rfl⟩ := un e
      exact fun σ F' H' le G => p σ F' H' le (G.unlock h)
  | ret x sl =>
    cases e : unlk k sl with
    | none => simp only [unlR, e] at p; exact p.elim
    | some s =>
      simp only [unlR, e] at p
      obtain ⟨b, d, h, rfl⟩ := un e
      exact fun v σ F' H' le G ax => p v σ F' H' le (G.unlock h) (av h ax)
  | err c ns vs sl =>
    cases e : unlk k sl with
    | none => simp only [unlR, e] at p; exact p.elim
    | some s =>
      simp only [unlR, e] at p
      obtain ⟨b, d, h, rfl⟩ := un e
      exact fun σ dd F' H' le G x => p σ dd F' H' le (G.unlock h) x
theorem for_imp {im : IM} {wi : TI} {t : TG} {b : BM} {body : SM} (hi : ∀ σ H R, (∃ F sl, Good g B F H σ sl ∧ PostI g B W F σ R (im sl)) → wi σ H R) (hb : BOk g t b) (h : tS g B W (sFor im b body) D σ H) :
    tFor wi t (fun D σ H => ∃ B', B'.ex = B.ex ∧ tS g B' W body D σ H) D σ H := by
  obtain ⟨F, sl, G, p⟩ := h
  refine hi σ H _ ⟨F, sl, G, ?_⟩
  unfold sFor at p
  cases e : im sl with
  | bad => rw [e] at p; exact p
  | err c ns vs sl' => rw [e] at p; exact p σ
  | ok ds lk sl' =>
    rw [e] at p
    intro J F1 H1 le G1 wk
    cases lk with
    | none =>
      exact for_core (ok := fun _ => true) hb (fun _ _ => rfl) G1 (wk B fun k z => by cases z) rfl (PostS.le p le)
    | some k =>
      dsimp only at p
      cases e1 : sl'[k]? with
      | none => rw [e1] at p; exact p.elim
      | some s =>
        rw [e1] at p
        have fresh : ∀ s', lockS s = some s' → PostS g B W F D (if lkIs k ds (sl'.set k s') then unlR k (forL (lkIs k ds) b body ds (sl'.set k s')) else .bad) → ∃ Wf : Nat → Nat → St → Hp → Prop, (∃ m, Wf 0 m σ H1) ∧ ∀ i m σ H, Wf i m σ H →
            (J.stop i H ∧ D.nx σ H) ∨ (J.go i H ∧ ∃ N : St → Hp → Prop, (∀ σ' H', N σ' H' → ∃ m', m' < m ∧ Wf (i + 1) m' σ' H') ∧ ∀ x H', J.yld i H x H' → t x σ H' fun σ2 H2 => (fun D σ H => ∃ B', B'.ex = B.ex ∧ tS g B' W body D σ H) { D with nx := N, ct := N, bk := D.nx } σ2 H2) := fun s' es p => by
          by_cases hk : lkIs k ds (sl'.set k s') = true
          · rw [if_pos hk] at p
            have md : ∃ d, mineD s = some d := by cases s <;> first | exact ⟨_, rfl⟩ | cases es
            obtain ⟨d, hd⟩ := md
            obtain ⟨a, m, ha, nF, c⟩ := G1.mineAt e1 hd
            exact for_core (B := lkB B k a) (lk := some k) (ok := lkIs k ds) hb (fun _ h => h) (G1.lock e1 es ha) (wk (lkB B k a) fun k' z => by cases z; exact ⟨a, ha, if_pos rfl⟩) hk (PostS.le (unl_post p) le)
          · rw [if_neg hk] at p; exact p.elim
        cases s with
        | lock b0 d0 =>
          dsimp only at p
          by_cases hk : lkIs k ds sl' = true
          · rw [if_pos hk] at p
            refine for_core (lk := some k) (ok := lkIs k ds) hb (fun _ h => h) G1 (wk B fun k' z => ?_) hk (PostS.le p le)
            cases z
            obtain ⟨a, e2, n, w, c⟩ := G1.slot k _ e1
            exact ⟨a, e2, w.2⟩
          · rw [if_neg hk] at p; exact p.elim
        | own d => exact fresh (.lock false d) rfl p
        | io d => exact fresh (.lock true d) rfl p
        | _ => exact p.elim
theorem ss_for {im : IM} {t : TG} {b : BM} {body : SM} {tg iter : Expr} {bs : List Stmt} {pos : Pos} (hp : PassesOwn (model X.prog X.w) X.A X.env X.xe) (hc : X.calm = true) (hi : SI cA X im tg iter) (hg : PG X tg t) (hb : BOk (gx X cA) t b) (hbody : SSs cA X body bs)
    (hs : ∀ x, foldedSetIterable iter X.env x = pure x := by intro _; rfl) : SS cA X (sFor im b body) (.For tg iter bs [] pos) := by
  refine ⟨fun B W tk => ?_⟩
  obtain ⟨wi, pi, hw⟩ := hi.run B W tk
  exact (ps_for hp hc pi hg (hbody.any W tk) hs).of fun D σ H h => for_imp hw hb h

/-! iterables -/
/-- a list -/
def iLst (m : EM) : IM := fun sl => match m sl with
  | .ok a sl' => (match cont sl' a with
    | some (.lst ds) => (match a with | .s k => .ok ds (some k) sl' | .p _ _ => .bad | _ => .ok ds none sl')
    | some (.kst ds) => .ok ds none sl'
    | _ => .bad)
  | .err c ns vs sl' => .err c ns vs sl'
  | .bad => .bad
def iTupM (m : EM) : IM := fun sl => match m sl with
  | .ok a sl' => (match cont sl' a with
    | some (.tup ds) => .ok ds none sl'
    | _ => .bad)
  | .err c ns vs sl' => .err c ns vs sl'
  | .bad => .bad
def rngD (lo : Int) (n : Nat) : List Za.D := (List.range n).map fun i => .int (lo + (i : Nat))
def iRng (l : LM) : IM := fun sl => match l sl with
  | .ok as sl' => (match conts sl' as with
    | some [.int j] => if -(2 ^ 62) ≤ j ∧ j < 2 ^ 62 then .ok (rngD 0 j.toNat) none sl' else .bad
    | some [.int i, .int j] => if -(2 ^ 62) ≤ i ∧ i < 2 ^ 62 ∧ -(2 ^ 62) ≤ j ∧ j < 2 ^ 62 then .ok (rngD i (j - i).toNat) none sl' else .bad
    | _ => .bad)
  | .err c ns vs sl' => .err c ns vs sl'
  | .bad => .bad
theorem walk_lst {J : It} {F1 : Hp} {ds : List Za.D} {a : Addr} {xs : List V} (hJ : J = Itl g.K a) (h : SqL g.K F1 a xs) (r : Reps g F1 xs ds) : WalkC g J F1 ds none σ := by
  subst hJ
  intro B _ i F H σ' sl G le _
  have hs := le_l (le.trans G.sub) h
  refine ⟨fun d e => ?_, fun e => ⟨xs, hs, by rw [r.length, e]; exact Nat.le_refl _⟩⟩
  obtain ⟨x, hx, rx⟩ := r.getD' e
  exact ⟨⟨xs, x, hs, hx⟩, fun y H' ⟨e1, e2⟩ => ⟨F, by rw [e1]; exact .refl G.sub, by
    have z := e2 xs hs; rw [hx] at z; cases z; exact rx.mono le⟩⟩
theorem walk_own {J : It} {F1 : Hp} {ds : List Za.D} {a : Addr} {k : Nat} (hJ : J = Itl g.K a) (ha : σ[k]? = some (some (.ref a))) : WalkC g J F1 ds (some k) σ := by
  subst hJ
  intro B hB i F H σ' sl G le l
  obtain ⟨a', ha', hl⟩ := hB k rfl
  rw [ha] at ha'; cases ha'
  have l' : lkIs k ds sl = true := l
  unfold lkIs at l'
  cases e1 : sl[k]? with
  | none => rw [e1] at l'; cases l'
  | some s =>
    rw [e1] at l'
    cases s with
    | lock b d =>
      have ed := D.eqb_eq l'
      subst ed
      obtain ⟨c, e2, n, w, cc⟩ := G.slot k _ e1
      have : c = a := Option.some.inj (w.2.symm.trans hl)
      subst this
      cases cc with
      | lst hh r =>
        refine ⟨fun d e => ?_, fun e => ⟨_, SqL.of hh, by rw [r.length, e]; exact Nat.le_refl _⟩⟩
        obtain ⟨x, hx, rx⟩ := r.getD' e
        exact ⟨⟨_, x, SqL.of hh, hx⟩, fun y H' ⟨e1, e2⟩ => ⟨F, by rw [e1]; exact .refl G.sub, by
          have z := e2 _ (SqL.of hh); rw [hx] at z; cases z; exact rx⟩⟩
    | _ => cases l'
theorem iLst_imp {m : EM} {R : It → Hp → Prop} (h : ∃ F sl, Good g B F H σ sl ∧ PostI g B W F σ R (iLst m sl)) : iList g.K (tE g B W m) σ H R := by
  obtain ⟨F, sl, G, p⟩ := h
  refine ⟨F, sl, G, ?_⟩
  unfold iLst at p
  cases e : m sl with
  | bad => rw [e] at p; exact p
  | err c ns vs sl' => rw [e] at p; exact p
  | ok a sl' =>
    rw [e] at p
    intro v F1 H1 le1 G1 x
    dsimp only at p
    cases e1 : cont sl' a with
    | none => rw [e1] at p; exact p.elim
    | some d =>
      rw [e1] at p
      cases d with
      | lst ds =>
        dsimp only at p
        cases a with
        | v d =>
          cases e1
          cases x with
          | lst hs r => exact ⟨_, rfl, ⟨_, SqL.of (G1.sub _ _ hs)⟩, p _ F1 H1 le1 G1 (walk_lst rfl (SqL.of hs) r)⟩
        | n d =>
          obtain ⟨F2, le2, G2, x2⟩ := x.frz G1
          cases e1
          cases x2 with
          | lst hs r => exact ⟨_, rfl, ⟨_, SqL.of (G2.sub _ _ hs)⟩, p _ F2 H1 (le1.trans le2) G2 (walk_lst rfl (SqL.of hs) r)⟩
        | s k =>
          obtain ⟨ad, e3, e4⟩ := id x
          subst e3
          obtain ⟨b, xs, e5, hs, r⟩ := (x.cont G1 e1).lst G1.sub
          exact ⟨ad, rfl, ⟨xs, by cases e5; exact SqL.of hs⟩, p _ F1 H1 le1 G1 (walk_own rfl e4)⟩
        | p _ _ => exact p.elim
        | t _ _ => cases e1
      | kst ds =>
        dsimp only at p
        rcases x.cont G1 e1 with c | ⟨ad, _, _, c⟩
        · cases c with
          | kst hs r => exact ⟨_, rfl, ⟨_, le_l G1.sub hs⟩, p _ F1 H1 le1 G1 (walk_lst rfl hs r)⟩
        · cases c
      | _ => exact p.elim
theorem si_lst {m : EM} {tg e : Expr} (h : SE cA X m e) : SI cA X (iLst m) tg e := ⟨fun B W tk => ⟨_, pi_list (h.run B W tk), fun _ _ _ h => iLst_imp h⟩⟩
theorem walk_tup {J : It} {F1 : Hp} {ds : List Za.D} {a : Addr} {xs : List V} (hJ : J = Itt g.K a) (h : SqT g.K F1 a xs) (r : Reps g F1 xs ds) : WalkC g J F1 ds none σ := by
  subst hJ
  intro B _ i F H σ' sl G le _
  have hs := le_t (le.trans G.sub) h
  refine ⟨fun d e => ?_, fun e => ⟨xs, hs, by rw [r.length, e]; exact Nat.le_refl _⟩⟩
  obtain ⟨x, hx, rx⟩ := r.getD' e
  exact ⟨⟨xs, x, hs, hx⟩, fun y H' ⟨e1, e2⟩ => ⟨F, by rw [e1]; exact .refl G.sub, by
    have z := e2 xs hs; rw [hx] at z; cases z; exact rx.mono le⟩⟩
theorem iTup_imp {m : EM} {R : It → Hp → Prop} (h : ∃ F sl, Good g B F H σ sl ∧ PostI g B W F σ R (iTupM m sl)) : iTup g.K (tE g B W m) σ H R := by
  obtain ⟨F, sl, G, p⟩ := h
  refine ⟨F, sl, G, ?_⟩
  unfold iTupM at p
  cases e : m sl with
  | bad => rw [e] at p; exact p
  | err c ns vs sl' => rw [e] at p; exact p
  | ok a sl' =>
    rw [e] at p
    intro v F1 H1 le1 G1 x
    dsimp only at p
    cases e1 : cont sl' a with
    | none => rw [e1] at p; exact p.elim
    | some d =>
      rw [e1] at p
      cases d with
      | tup ds =>
        dsimp only at p
        have c := x.cont G1 e1
        rcases c with c | ⟨ad, _, _, c⟩
        · cases c with
          | tup hs r => exact ⟨_, rfl, ⟨_, le_t G1.sub hs⟩, p _ F1 H1 le1 G1 (walk_tup rfl hs r)⟩
        · cases c
      | _ => exact p.elim
theorem si_tup {m : EM} {tg e : Expr} (h : SE cA X m e) : SI cA X (iTupM m) tg e := ⟨fun B W tk => ⟨_, pi_tup (h.run B W tk), fun _ _ _ h => iTup_imp h⟩⟩
theorem rngD_get {lo : Int} {n i : Nat} {d : Za.D} (h : (rngD lo n)[i]? = some d) : i < n ∧ d = .int (lo + i) := by
  unfold rngD at h
  rw [List.getElem?_map] at h
  obtain ⟨j, h1, h2⟩ := Option.map_eq_some_iff.mp h
  have hi : i < n := by
    have := (List.getElem?_eq_some_iff.mp h1).1
    simpa using this
  rw [List.getElem?_range hi] at h1
  cases h1
  exact ⟨hi, h2.symm⟩
theorem rngD_len {lo : Int} {n : Nat} : (rngD lo n).length = n := by simp [rngD]
theorem walk_rng {J : It} {F1 : Hp} {lo : Int} {n : Nat} (hJ : J = Itr lo n) : WalkC g J F1 (rngD lo n) none σ := by
  subst hJ
  intro B _ i F H σ' sl G le _
  refine ⟨fun d e => ?_, fun e => by rw [e, rngD_len]; exact Nat.le_refl _⟩
  obtain ⟨h1, h2⟩ := rngD_get e
  exact ⟨h1, fun y H' ⟨e1, e2⟩ => ⟨F, by rw [e1]; exact .refl G.sub, by rw [e2, h2]; exact .int _⟩⟩
theorem Conts.one {v : List V} {d : Za.D} {F H : Hp} (c : Conts g F H v [d]) : ∃ x, v = [x] ∧ Cont g F H x d := by
  cases c with
  | cons c r => cases r; exact ⟨_, rfl, c⟩
theorem Conts.two {v : List V} {d e : Za.D} {F H : Hp} (c : Conts g F H v [d, e]) : ∃ x y, v = [x, y] ∧ Cont g F H x d ∧ Cont g F H y e := by
  cases c with
  | cons c r =>
    cases r with
    | cons c' r => cases r; exact ⟨_, _, rfl, c, c'⟩
theorem iRng_imp1 {l : LM} {R : It → Hp → Prop} (h1 : ∀ sl as sl', l sl = .ok as sl' → as.length = 1) (h : ∃ F sl, Good g B F H σ sl ∧ PostI g B W F σ R (iRng l sl)) : iRng1 (tL g B W l) σ H R := by
  obtain ⟨F, sl, G, p⟩ := h
  refine ⟨F, sl, G, ?_⟩
  unfold iRng at p
  cases e : l sl with
  | bad => rw [e] at p; exact p
  | err c ns vs sl' => rw [e] at p; exact p
  | ok as sl' =>
    rw [e] at p
    intro vs F1 H1 le1 G1 xs
    have hl := h1 _ _ _ e
    dsimp only at p
    match as, hl with
    | [a], _ =>
      unfold conts at p
      cases e1 : cont sl' a with
      | none => simp only [e1] at p; exact p.elim
      | some d =>
        simp only [e1, conts] at p
        cases xs with
        | cons x r =>
          cases r
          cases d with
          | int j =>
            dsimp only at p
            by_cases hc : -(2 ^ 62) ≤ j ∧ j < 2 ^ 62
            · rw [if_pos hc] at p
              exact ⟨j, by rw [(x.cont G1 e1).int], hc.1, hc.2, p _ F1 H1 le1 G1 (walk_rng rfl)⟩
            · rw [if_neg hc] at p; exact p.elim
          | _ => exact p.elim
theorem iRng_imp2 {l : LM} {R : It → Hp → Prop} (h1 : ∀ sl as sl', l sl = .ok as sl' → as.length = 2) (h : ∃ F sl, Good g B F H σ sl ∧ PostI g B W F σ R (iRng l sl)) : iRng2 (tL g B W l) σ H R := by
  obtain ⟨F, sl, G, p⟩ := h
  refine ⟨F, sl, G, ?_⟩
  unfold iRng at p
  cases e : l sl with
  | bad => rw [e] at p; exact p
  | err c ns vs sl' => rw [e] at p; exact p
  | ok as sl' =>
    rw [e] at p
    intro vs F1 H1 le1 G1 xs
    have hl := h1 _ _ _ e
    dsimp only at p
    match as, hl with
    | [a, a2], _ =>
      unfold conts at p
      cases e1 : cont sl' a with
      | none => simp only [e1] at p; exact p.elim
      | some d =>
        cases e2 : cont sl' a2 with
        | none => simp only [e1, e2, conts] at p; exact p.elim
        | some d2 =>
          simp only [e1, e2, conts] at p
          cases xs with
          | cons x r =>
            cases r with
            | cons y r =>
              cases r
              cases d with
              | int j =>
                cases d2 with
                | int k =>
                  dsimp only at p
                  by_cases hc : -(2 ^ 62) ≤ j ∧ j < 2 ^ 62 ∧ -(2 ^ 62) ≤ k ∧ k < 2 ^ 62
                  · rw [if_pos hc] at p
                    exact ⟨j, k, by rw [(x.cont G1 e1).int, (y.cont G1 e2).int], hc, p _ F1 H1 le1 G1 (walk_rng rfl)⟩
                  · rw [if_neg hc] at p; exact p.elim
                | _ => exact p.elim
              | _ => exact p.elim
theorem lCons_len {m : EM} {l : LM} {n : Nat} (h : ∀ sl as sl', l sl = .ok as sl' → as.length = n) : ∀ sl as sl', lCons m l sl = .ok as sl' → as.length = n + 1 := fun sl as sl' e => by
  unfold lCons at e
  cases e1 : eV m sl with
  | bad => rw [e1] at e; cases e
  | err c ns vs s => rw [e1] at e; cases e
  | ok a s =>
    rw [e1] at e
    dsimp only at e
    cases e2 : l s with
    | bad => rw [e2] at e; cases e
    | err c ns vs s => rw [e2] at e; cases e
    | ok as2 s2 => rw [e2] at e; cases e; rw [List.length_cons, h _ _ _ e2]
theorem lNil_len : ∀ sl as sl', lNil sl = .ok as sl' → as.length = 0 := fun sl as sl' e => by cases e; rfl
theorem si_rng1 {m : EM} {a : Expr} {tg : Expr} {p pos : Pos} (hg : L2.Gl X "range") (hm : X.mg "range" = none) (ha : SE cA X m a) (h1 : starEach [a] X.env = (false, eval a X.env) :: starEach [] X.env := by rfl) (hs : starEach [a] X.env = [(false, eval a X.env)] := by rfl) : SI cA X (iRng (lCons m lNil)) tg (.Call (.Name "range" p) [a] [] pos) :=
  ⟨fun B W tk => ⟨_, pi_range1 hg hm ((sl_cons ha sl_nil h1).run B W tk) hs, fun _ _ _ h => iRng_imp1 (lCons_len lNil_len) h⟩⟩
theorem si_rng2 {m k : EM} {a b : Expr} {tg : Expr} {p pos : Pos} (hg : L2.Gl X "range") (hm : X.mg "range" = none) (ha : SE cA X m a) (hb : SE cA X k b)
    (h1 : starEach [b] X.env = (false, eval b X.env) :: starEach [] X.env := by rfl) (h2 : starEach [a, b] X.env = (false, eval a X.env) :: starEach [b] X.env := by rfl) (hs : starEach [a, b] X.env = [(false, eval a X.env), (false, eval b X.env)] := by rfl) (hs2 : starEach [b] X.env = [(false, eval b X.env)] := by rfl) :
    SI cA X (iRng (lCons m (lCons k lNil))) tg (.Call (.Name "range" p) [a, b] [] pos) :=
  ⟨fun B W tk => ⟨_, pi_range2 hg hm ((sl_cons ha (sl_cons hb sl_nil h1) h2).run B W tk) hs hs2, fun _ _ _ h => iRng_imp2 (lCons_len (lCons_len lNil_len)) h⟩⟩
end loop
end Za
end
section
set_option Elab.async false
set_option linter.all false
set_option maxRecDepth 100000
set_option maxHeartbeats 2000000
namespace Za
open PySem PySem.Spec PyProof.Rows L2

/-! ### defs -/
inductive Arg where
  | v (d : D) | io (d : D)
inductive FR where
  /-- the value, whether it is a new object, what the changeable arguments are now -/
  | ok (d : D) (fr : Bool) (outs : List D) | okT (ls : Bool) (ks : List Kid) (outs : List D) | err (c : Nat) (ns : List Str) (vs : List D) (outs : List D) | bad
abbrev FM := List Arg → FR

inductive ArgsOk (g : G0) (F H : Hp) : List Addr → List V → List Arg → Prop
  | nil : ArgsOk g F H [] [] []
  | v {A : List Addr} {v : V} {d : D} {vs : List V} {as : List Arg} : Rep g F v d → ArgsOk g F H A vs as → ArgsOk g F H A (v :: vs) (.v d :: as)
  | io {A : List Addr} {a : Addr} {d : D} {vs : List V} {as : List Arg} : F a = none → a ∉ A → CellAt g F H a d → ArgsOk g F H A vs as → ArgsOk g F H (a :: A) (.ref a :: vs) (.io d :: as)
inductive OutsOk (g : G0) (F H : Hp) : List Addr → List D → Prop
  | nil : OutsOk g F H [] []
  | cons {a : Addr} {A : List Addr} {d : D} {ds : List D} : CellAt g F H a d → OutsOk g F H A ds → OutsOk g F H (a :: A) (d :: ds)
structure RetOk (g : G0) (F H : Hp) (A : List Addr) (F' H' : Hp) (outs : List D) : Prop where
  f : Le F F'
  sub : Le F' H'
  keep : ∀ a o, H a = some o → a ∉ A → H' a = some o
  fresh : ∀ a o, F' a = some o → F a = none → H a = none
  outs : OutsOk g F' H' A outs
def RetV (g : G0) (H F' H' : Hp) (v : V) (d : D) (fr : Bool) : Prop := if fr = true then ∃ q, v = .ref q ∧ H q = none ∧ F' q = none ∧ CellAt g F' H' q d else Rep g F' v d
def RetT (g : G0) (H F' H' : Hp) (v : V) (ls : Bool) (ks : List Kid) : Prop := ∃ q xs, v = .ref q ∧ ShellO ls F' q xs ∧ H q = none ∧ Kids g F' H' xs ks ∧ ∀ a, KidA xs ks a → H a = none
def PostF (g : G0) (F H : Hp) (A : List Addr) (Q : VK) (E : XK) : FR → Prop
  | .ok d fr outs => ∀ v F' H', RetOk g F H A F' H' outs → RetV g H F' H' v d fr → Q v H'
  | .okT ls ks outs => ∀ v F' H', RetOk g F H A F' H' outs → RetT g H F' H' v ls ks → Q v H'
  | .err c ns vs outs => ∀ dd F' H', RetOk g F H A F' H' outs → XdAt g F' H' dd ns vs → E (.ref (g.cA c)) (some dd) H'
  | .bad => False
/-- what a def with the meaning F promises -/
def spF (cA : Nat → Addr) (K : PySem.W.Frag) (np : Nat) (F : FM) : Sp := fun vs H Q E => vs.length = np ∧ ∃ F0 A args, Le F0 H ∧ ArgsOk ⟨K, cA⟩ F0 H A vs args ∧ PostF ⟨K, cA⟩ F0 H A Q E (F args)

def argS : Arg → Slot
  | .v d => .val d
  | .io d => .io d
def outsOf : List Arg → List Slot → Option (List D)
  | [], _ => some []
  | .v _ :: as, _ :: sl => outsOf as sl
  | .io _ :: as, .io d :: sl => (outsOf as sl).map (d :: ·)
  | _, _ => none
def fin (args : List Arg) : SR → FR
  | .nx sl => (match outsOf args sl with
    | some os => .ok .non false os
    | none => .bad)
  | .ret a sl => (match outsOf args sl with
    | some os => (match a with
      | .v d => .ok d false os
      | .n d => .ok d true os
      | .t ls ks => .okT ls ks os
      | .p _ _ => .bad
      | .s i => (match sl[i]? with
        | some (.own d) => .ok d true os
        | _ => .bad))
    | none => .bad)
  | .retM ls ks sl => (match outsOf args sl with
    | some os => .okT ls ks os
    | none => .bad)
  | .err c ns vs sl => (match outsOf args sl with
    | some os => .err c ns vs os
    | none => .bad)
  | _ => .bad
/-- the meaning of a def with n names, of which the arguments are the first -/
def fnM (n : Nat) (m : SM) : FM := fun args => fin args (m (args.map argS ++ List.replicate (n - args.length) .emp))

def ioL : List Addr → List Arg → List (Option Addr)
  | _, [] => []
  | A, .v _ :: as => none :: ioL A as
  | a :: A, .io _ :: as => some a :: ioL A as
  | [], .io _ :: as => none :: ioL [] as
section defs
variable {g : G0} {F H F' H' : Hp} {A : List Addr} {vs : List V} {args : List Arg}
theorem ArgsOk.len (h : ArgsOk g F H A vs args) : vs.length = args.length := by
  induction h with
  | nil => rfl
  | v _ _ ih => simp [ih]
  | io _ _ _ _ ih => simp [ih]
theorem ArgsOk.slot (h : ArgsOk g F H A vs args) : ∀ {i : Nat} {a : Arg}, args[i]? = some a → ∃ v, vs[i]? = some v ∧ (match a with
    | .v d => Rep g F v d
    | .io d => ∃ b, v = .ref b ∧ F b = none ∧ b ∈ A ∧ (ioL A args)[i]? = some (some b) ∧ CellAt g F H b d) := by
  induction h with
  | nil => intro i a e; simp at e
  | @v A v d vs as r _ ih =>
    intro i a e
    cases i with
    | zero => simp at e; subst e; exact ⟨v, rfl, r⟩
    | succ i =>
      obtain ⟨w, h1, h2⟩ := ih (i := i) (a := a) (by simpa using e)
      refine ⟨w, by simpa using h1, ?_⟩
      cases a with
      | v d => exact h2
      | io d => obtain ⟨b, q1, q2, q3, q4, q5⟩ := h2; exact ⟨b, q1, q2, q3, by simpa [ioL] using q4, q5⟩
  | @io A c d vs as n nA cc _ ih =>
    intro i a e
    cases i with
    | zero => simp at e; subst e; exact ⟨_, rfl, c, rfl, n, List.mem_cons_self, rfl, cc⟩
    | succ i =>
      obtain ⟨w, h1, h2⟩ := ih (i := i) (a := a) (by simpa using e)
      refine ⟨w, by simpa using h1, ?_⟩
      cases a with
      | v d => exact h2
      | io d => obtain ⟨b, q1, q2, q3, q4, q5⟩ := h2; exact ⟨b, q1, q2, List.mem_cons_of_mem _ q3, by simpa [ioL] using q4, q5⟩
theorem ArgsOk.live (h : ArgsOk g F H A vs args) : ∀ a ∈ A, ∃ o, H a = some o := by
  induction h with
  | nil => intro a h; cases h
  | v _ _ ih => exact ih
  | io _ _ c _ ih =>
    intro a h
    rcases List.mem_cons.mp h with rfl | h
    · obtain ⟨o, e, _⟩ := c.obj'; exact ⟨o, e⟩
    · exact ih a h
theorem ArgsOk.ioApart (h : ArgsOk g F H A vs args) : ∀ {i j : Nat} {a : Addr}, (ioL A args)[i]? = some (some a) → (ioL A args)[j]? = some (some a) → i = j := by
  have mem : ∀ {A : List Addr} {args : List Arg} {i : Nat} {a : Addr}, (ioL A args)[i]? = some (some a) → a ∈ A := by
    intro A args
    induction args generalizing A with
    | nil => intro i a e; simp [ioL] at e
    | cons x as ih =>
      intro i a e
      cases x with
      | v d =>
        cases i with
        | zero => simp [ioL] at e
        | succ i => exact ih (i := i) (by simpa [ioL] using e)
      | io d =>
        cases A with
        | nil =>
          cases i with
          | zero => simp [ioL] at e
          | succ i => exact ih (A := []) (i := i) (by simpa [ioL] using e)
        | cons b A =>
          cases i with
          | zero => simp [ioL] at e; subst e; exact List.mem_cons_self
          | succ i => exact List.mem_cons_of_mem _ (ih (i := i) (by simpa [ioL] using e))
  induction h with
  | nil => intro i j a e; simp [ioL] at e
  | v _ _ ih =>
    intro i j a e1 e2
    cases i with
    | zero => simp [ioL] at e1
    | succ i => cases j with
      | zero => simp [ioL] at e2
      | succ j => rw [ih (i := i) (j := j) (by simpa [ioL] using e1) (by simpa [ioL] using e2)]
  | @io A c d vs as n nA cc _ ih =>
    intro i j a e1 e2
    cases i with
    | zero =>
      simp [ioL] at e1; subst e1
      cases j with
      | zero => rfl
      | succ j => exact absurd (mem (i := j) (by simpa [ioL] using e2)) nA
    | succ i => cases j with
      | zero =>
        simp [ioL] at e2; subst e2
        exact absurd (mem (i := i) (by simpa [ioL] using e1)) nA
      | succ j => rw [ih (i := i) (j := j) (by simpa [ioL] using e1) (by simpa [ioL] using e2)]
/-- the frame at its start -/
theorem good_start (le : Le F H) (h : ArgsOk g F H A vs args) {N : List Str} (hn : vs.length ≤ N.length) :
    Good g ⟨F, H, A, ioL A args, fun _ => none, none⟩ F H (L2.start N vs) (args.map argS ++ List.replicate (N.length - args.length) .emp) := by
  have hl := h.len
  have sl : ∀ {i : Nat} {s : Slot}, (args.map argS ++ List.replicate (N.length - args.length) .emp)[i]? = some s → (∃ a, args[i]? = some a ∧ s = argS a) ∨ s = .emp := fun {i s} e => by
    by_cases hi : i < args.length
    · rw [List.getElem?_append_left (by simpa using hi), List.getElem?_map] at e
      obtain ⟨a, h1, h2⟩ := Option.map_eq_some_iff.mp e
      exact .inl ⟨a, h1, h2.symm⟩
    · rw [List.getElem?_append_right (by simpa using hi)] at e
      have := List.getElem?_eq_some_iff.mp e
      obtain ⟨h1, h2⟩ := this
      exact .inr (by simpa using h2.symm)
  have st : ∀ {i : Nat} {v : V}, vs[i]? = some v → (L2.start N vs)[i]? = some (some v) := fun {i v} e => by
    have hi := (List.getElem?_eq_some_iff.mp e).1
    unfold L2.start
    rw [List.getElem?_append_left (by simpa using hi), List.getElem?_map, e]
    rfl
  have mine : ∀ {i : Nat} {a : Addr}, Mine F (L2.start N vs) (args.map argS ++ List.replicate (N.length - args.length) .emp) i a → (ioL A args)[i]? = some (some a) := fun {i a} m => by
    rcases m with ⟨⟨s, d, h1, h2⟩, h3⟩ | ⟨ls, ks, q, xs, h1, _⟩
    · rcases sl h1 with ⟨x, e1, rfl⟩ | rfl
      · obtain ⟨v, e2, q⟩ := h.slot e1
        rw [st e2] at h3
        cases h3
        cases x with
        | v d => cases h2
        | io d => obtain ⟨b, e, _, _, q4, _⟩ := q; cases e; exact q4
      · cases h2
    · rcases sl h1 with ⟨x, e1, z⟩ | z
      · cases x <;> cases z
      · cases z
  refine ⟨le, .refl _, fun a o h1 h2 => (nomatch (show some o = none from h1.symm.trans h2)), fun a o h1 _ => h1, h.live, fun i s e => ?_, fun i j a b ne m1 m2 z => ?_, ?_, fun i j k ls ks e1 _ => ?_⟩
  · rcases sl e with ⟨x, e1, rfl⟩ | rfl
    · obtain ⟨v, e2, q⟩ := h.slot e1
      cases x with
      | v d => exact ⟨v, st e2, q⟩
      | io d => obtain ⟨b, rfl, q2, q3, q4, q5⟩ := q; exact ⟨b, st e2, q2, ⟨.inr q3, fun _ => q4⟩, q5⟩
    · trivial
  · subst z
    exact ne (h.ioApart (mine m1) (mine m2))
  · unfold L2.start
    simp [hl]
  · rcases sl e1 with ⟨x, e1, z⟩ | z
    · cases x <;> cases z
    · cases z
/-- what the changeable arguments are at the end -/
theorem outs_ok : ∀ {args : List Arg} {A : List Addr} {vs : List V} {sl : List Slot} {os : List D}, ArgsOk g F H A vs args → outsOf args sl = some os →
    (∀ (i : Nat) (d : D) (a : Addr), sl[i]? = some (Slot.io d) → (ioL A args)[i]? = some (some a) → CellAt g F' H' a d) → OutsOk g F' H' A os := by
  intro args A vs sl os h
  induction h generalizing sl os with
  | nil => intro e _; cases e; exact .nil
  | v _ _ ih =>
    intro e q
    cases sl with
    | nil => cases e
    | cons s sl => exact ih e fun i d a h1 h2 => q (i + 1) d a (by simpa using h1) (by simpa [ioL] using h2)
  | io _ _ _ _ ih =>
    intro e q
    cases sl with
    | nil => cases e
    | cons s sl =>
      cases s with
      | io d =>
        obtain ⟨os', e1, e2⟩ := Option.map_eq_some_iff.mp e
        subst e2
        exact .cons (q 0 d _ rfl rfl) (ih e1 fun i d a h1 h2 => q (i + 1) d a (by simpa using h1) (by simpa [ioL] using h2))
      | _ => cases e
theorem outs_slot : ∀ {args : List Arg} {A : List Addr} {vs : List V} {sl : List Slot} {os : List D}, ArgsOk g F H A vs args → outsOf args sl = some os → ∀ a ∈ A, ∃ (i : Nat) (d : D), sl[i]? = some (Slot.io d) ∧ (ioL A args)[i]? = some (some a) := by
  intro args A vs sl os h
  induction h generalizing sl os with
  | nil => intro _ a z; cases z
  | v _ _ ih =>
    intro e a ha
    cases sl with
    | nil => cases e
    | cons s sl => obtain ⟨i, d, h1, h2⟩ := ih e a ha; exact ⟨i + 1, d, by simpa using h1, by simpa [ioL] using h2⟩
  | io _ _ _ _ ih =>
    intro e a ha
    cases sl with
    | nil => cases e
    | cons s sl =>
      cases s with
      | io d =>
        obtain ⟨os', e1, e2⟩ := Option.map_eq_some_iff.mp e
        rcases List.mem_cons.mp ha with rfl | ha
        · exact ⟨0, d, rfl, rfl⟩
        · obtain ⟨i, d, h1, h2⟩ := ih e1 a ha; exact ⟨i + 1, d, by simpa using h1, by simpa [ioL] using h2⟩
      | _ => cases e
theorem ret_ok (h : ArgsOk g F H A vs args) {σ : St} {sl : List Slot} {os : List D} (G : Good g ⟨F, H, A, ioL A args, fun _ => none, none⟩ F' H' σ sl) (e : outsOf args sl = some os) : RetOk g F H A F' H' os :=
  ⟨G.ext, G.sub, fun a o h1 h2 => G.keep a o h1 h2, fun a o h1 h2 => (by
    rcases G.new a o h1 h2 with z | z
    · exact z
    · obtain ⟨j, d', q1, q2⟩ := outs_slot h e a z
      obtain ⟨b, e6, n6, w2, _⟩ := G.slot j _ q1
      have z2 : (ioL A args)[j]? = some (some b) := w2.2 rfl
      rw [q2] at z2; cases z2
      rw [h1] at n6; cases n6), outs_ok h e fun i d a h1 h2 => by
    obtain ⟨b, _, _, w, c⟩ := G.slot i _ h1
    have z := w.2 rfl
    have z' : (ioL A args)[i]? = some (some b) := z
    rw [h2] at z'
    cases z'
    exact c⟩
theorem fin_ok (h : ArgsOk g F H A vs args) {W : WX} {E : XK} {Q : VK} {r : SR} (hW : ∀ c d σ H, E c d H → W c d σ H) (p : PostF g F H A Q E (fin args r)) : PostS g ⟨F, H, A, ioL A args, fun _ => none, none⟩ W F { nx := fun _ H' => Q .non H', rt := Q } r := by
  cases r with
  | bad => exact p
  | brk sl => exact p.elim
  | cnt sl => exact p.elim
  | nx sl =>
    simp only [fin] at p
    cases e : outsOf args sl with
    | none => simp only [e] at p; exact p.elim
    | some os =>
      simp only [e] at p
      exact fun σ F' H' le G => p .non F' H' (ret_ok h G e) .non
  | err c ns es sl =>
    simp only [fin] at p
    cases e : outsOf args sl with
    | none => simp only [e] at p; exact p.elim
    | some os =>
      simp only [e] at p
      exact fun σ dd F' H' le G x => hW _ _ _ _ (p dd F' H' (ret_ok h G e) x)
  | retM ls ks sl =>
    simp only [fin] at p
    cases e : outsOf args sl with
    | none => simp only [e] at p; exact p.elim
    | some os =>
      simp only [e] at p
      intro v σ F' H' le G x
      obtain ⟨q, xs, e1, h1, h0, K, w⟩ := x
      refine p v F' H' (ret_ok h G e) ⟨q, xs, e1, h1, h0, K, fun a ka => ?_⟩
      rcases (w a ka).1 with z | z
      · exact z
      · obtain ⟨j, d', h1, h2⟩ := outs_slot h e a z
        obtain ⟨b, e6, _, w2, _⟩ := G.slot j _ h1
        have z2 : (ioL A args)[j]? = some (some b) := w2.2 rfl
        rw [h2] at z2; cases z2
        exact absurd rfl ((w a ka).2 j a (.inl ⟨⟨_, _, h1, rfl⟩, e6⟩))
  | ret a sl =>
    simp only [fin] at p
    cases e : outsOf args sl with
    | none => simp only [e] at p; exact p.elim
    | some os =>
      simp only [e] at p
      intro v σ F' H' le G x
      cases a with
      | v d => exact p v F' H' (ret_ok h G e) x
      | n d => obtain ⟨q, e1, n, n0, _, c⟩ := x; exact p v F' H' (ret_ok h G e) ⟨q, e1, n0, n, c⟩
      | t ls ks => obtain ⟨q, xs, e1, h1, h0, K, w⟩ := x; exact p v F' H' (ret_ok h G e) ⟨q, xs, e1, h1, h0, K, fun a ka => (w a ka).1⟩
      | p _ _ => exact p.elim
      | s i =>
        dsimp only at p
        cases e2 : sl[i]? with
        | none => simp only [e2] at p; exact p.elim
        | some s =>
          simp only [e2] at p
          cases s with
          | own d =>
            obtain ⟨a, e3, n, w, c⟩ := G.slot i _ e2
            obtain ⟨a', e4, e5⟩ := x
            rw [e3] at e5; cases e5
            refine p v F' H' (ret_ok h G e) ⟨a, e4, ?_, n, c⟩
            rcases w.1 with z | z
            · exact z
            · obtain ⟨j, d', h1, h2⟩ := outs_slot h e a z
              obtain ⟨b, e6, _, w2, _⟩ := G.slot j _ h1
              have z2 : (ioL A args)[j]? = some (some b) := w2.2 rfl
              rw [h2] at z2; cases z2
              by_cases ne : i = j
              · subst ne; rw [e2] at h1; cases h1
              · exact absurd rfl (G.apart i j a a ne (.inl ⟨⟨_, _, e2, rfl⟩, e3⟩) (.inl ⟨⟨_, _, h1, rfl⟩, e6⟩))
          | _ => exact p.elim
end defs

theorem fn_def {P : Program} {w : World} {K : PySem.W.Frag} {mg : Str → Option Value} {base : Heap} {cA : Nat → Addr} {x qual : Str} {st : Stmt} {f : Addr} {fd : FuncData} {N ps : List Str} {k : Nat} {m : SM} (F : Fun K x qual st f fd) (S : FnScope N ps (defScope st)) (hN : ps.length ≤ N.length)
    (hb : ∀ (cdv : Value) (A : Around) (outer : List Env) (s : Shared) (H : Hp) (E : XK), Room k (A.deeper (envOfC qual (defScope st) s.heap.objs.size f cdv)) → SSs cA (cxOf (L2.CX P w) P w K mg base N qual (defScope st) f cdv A outer s H E) m (defBody st)) :
    FnOk P w K mg base (L2.CX P w) (k + 1) f fd ps (spF cA K ps.length (fnM N.length m)) := by
  refine F.okX S (fun vs H Q E h => h.1) fun cdv A outer s H vs Q E hr ⟨hl, F0, A0, args, le, ha, p⟩ => ?_
  exact ⟨_, (hb cdv A outer s H E hr).run ⟨F0, H, A0, ioL A0 args, fun _ => none, none⟩ (fun cls d _ H => E cls d H) ⟨fun q z => (nomatch z), takes_of rfl rfl rfl rfl⟩, F0, _, good_start le ha (by rw [hl]; exact hN), fin_ok ha (fun _ _ _ _ h => h) p⟩
end Za
end
section
set_option Elab.async false
set_option linter.all false
set_option maxRecDepth 100000
set_option maxHeartbeats 2000000
namespace Za
open PySem PySem.Spec PyProof.Rows L2

/-! ### calls -/
mutual
/-- no object that may change lies within -/
def solid : D → Bool
  | .non | .bl _ | .int _ | .str _ => true
  | .tup xs => solids xs
  | _ => false
def solids : List D → Bool
  | [] => true
  | d :: ds => solid d && solids ds
end
/-- .. but itself -/
def solidK : D → Bool
  | .lst xs => solids xs
  | .dct _ vs => solids vs
  | .obj _ _ vs => solids vs
  | d => solid d
/-- the arguments of a call: true: may change; the slots that may, the slots that are lent -/
def mkArgs (sl : List Slot) : List Bool → List AV → Option (List Arg × List Nat × List Nat)
  | [], [] => some ([], [], [])
  | m :: ms, a :: as => match mkArgs sl ms as with
    | none => none
    | some (ar, is, bs) => match m, a with
      | false, .v d => some (.v d :: ar, is, bs)
      | false, .s i => (match sl[i]? with
        | some s => (match mineD s with
          | some d => if is.contains i then none else some (.v d :: ar, is, i :: bs)
          | none => none)
        | none => none)
      | false, .p i k => (match sl[i]? with
        | some (.sh _ ks) => (match ks[k]? with
          | some kd => if is.contains i then none else some (.v (kidD kd) :: ar, is, i :: bs)
          | none => none)
        | _ => none)
      | true, .s i => (match sl[i]? with
        | some s => (match mutD s with
          | some d => if is.contains i || bs.contains i then none else some (.io d :: ar, i :: is, bs)
          | none => none)
        | none => none)
      | _, _ => none
  | _, _ => none
def wb : List Nat → List D → List Slot → Option (List Slot)
  | [], [], sl => some sl
  | i :: is, d :: ds, sl => (match sl[i]? with
    | some s => if (mutD s).isSome then wb is ds (sl.set i (reD s d)) else none
    | none => none)
  | _, _, _ => none
def okRet (bs : List Nat) (d : D) (fr : Bool) (outs : List D) : Bool := bs.isEmpty || ((if fr then solidK d else solid d) && outs.all solidK)
def okErr (bs : List Nat) (vs outs : List D) : Bool := bs.isEmpty || (solids vs && outs.all solidK)
def solidT : Kid → Bool
  | .fz d => solid d
  | .ow d => solidK d
def okRetT (bs : List Nat) (ks : List Kid) (outs : List D) : Bool := bs.isEmpty || (ks.all solidT && outs.all solidK)
def callR (is bs : List Nat) (sl : List Slot) : FR → ER
  | .ok d fr outs => (match wb is outs sl with
    | some sl' => if okRet bs d fr outs then .ok (if fr then .n d else .v d) sl' else .bad
    | none => .bad)
  | .okT ls ks outs => (match wb is outs sl with
    | some sl' => if okRetT bs ks outs then .ok (.t ls ks) sl' else .bad
    | none => .bad)
  | .err c ns vs outs => (match wb is outs sl with
    | some sl' => if okErr bs vs outs then .err c ns vs sl' else .bad
    | none => .bad)
  | .bad => .bad
def eCall (F : FM) (modes : List Bool) (l : LM) : EM := fun sl => match l sl with
  | .ok as sl' => (match mkArgs sl' modes as with
    | some (ar, is, bs) => callR is bs sl' (F ar)
    | none => .bad)
  | .err c ns vs sl' => .err c ns vs sl'
  | .bad => .bad

mutual
theorem Rep.solid {g : G0} {F F' : Hp} (k : ∀ a o, F a = some o → cellO o = false → F' a = some o) : ∀ {v : V} {d : D}, Rep g F v d → solid d = true → Rep g F' v d
  | _, _, .non, _ => .non
  | _, _, .bl b, _ => .bl b
  | _, _, .int i, _ => .int i
  | _, _, .str x, _ => .str x
  | _, _, .tup h r, s => .tup (by
      rcases h with (h | ⟨o, h⟩) | h
      · exact .inl (.inl (k _ _ h rfl))
      · exact .inl (.inr ⟨o, k _ _ h rfl⟩)
      · exact .inr h) (Reps.solid k r (by simpa [Za.solid] using s))
  | _, _, .lst _ _, s => by simp [Za.solid] at s
  | _, _, .kst _ _, s => by simp [Za.solid] at s
  | _, _, .dk _ _, s => by simp [Za.solid] at s
  | _, _, .dt _ _, s => by simp [Za.solid] at s
  | _, _, .obj _ _, s => by simp [Za.solid] at s
theorem Reps.solid {g : G0} {F F' : Hp} (k : ∀ a o, F a = some o → cellO o = false → F' a = some o) : ∀ {vs : List V} {ds : List D}, Reps g F vs ds → solids ds = true → Reps g F' vs ds
  | _, _, .nil, _ => .nil
  | _, _, .cons h r, s => .cons (Rep.solid k h (by simp [solids] at s; exact s.1)) (Reps.solid k r (by simp [solids] at s; exact s.2))
end
theorem CellAt.solid {g : G0} {F F' H H' : Hp} {a : Addr} {d : D} (k : ∀ a o, F a = some o → cellO o = false → F' a = some o) (c : CellAt g F H a d) (e : H' a = H a) (s : solidK d = true) : CellAt g F' H' a d := by
  cases c with
  | lst h r => exact .lst (e.trans h) (r.solid k s)
  | dk h r => exact .dk (e.trans h) (r.solid k s)
  | dt h r => exact .dt (e.trans h) (r.solid k s)
  | obj h r => exact .obj (e.trans h) (r.solid k s)

section calls
variable {g : G0} {B : Base} {W : WX} {F F' H H' : Hp} {σ : St} {sl sl' : List Slot} {Q : VK}
/-- the addresses of slots -/
def adrs (σ : St) (is : List Nat) : List Addr := is.filterMap fun i => match σ[i]? with
  | some (some (V.ref a)) => some a
  | _ => none
/-- the slots is hold objects of one's own -/
def Owns (σ : St) (sl : List Slot) (is : List Nat) : Prop := ∀ i ∈ is, ∃ a, Flat σ sl i a
/-- the addresses that slots lend -/
def lents (F : Hp) (σ : St) (sl : List Slot) (bs : List Nat) : List Addr := bs.flatMap fun i => slotAs F sl[i]? σ[i]?
theorem mem_lents {F : Hp} {σ : St} {sl : List Slot} {bs : List Nat} {a : Addr} : a ∈ lents F σ sl bs ↔ ∃ i ∈ bs, Mine F σ sl i a := by
  unfold lents
  rw [List.mem_flatMap]
  exact ⟨fun ⟨i, h1, h2⟩ => ⟨i, h1, mem_slotAs.mp h2⟩, fun ⟨i, h1, h2⟩ => ⟨i, h1, mem_slotAs.mpr h2⟩⟩
theorem mem_adrs {a : Addr} {is : List Nat} : a ∈ adrs σ is ↔ ∃ i ∈ is, σ[i]? = some (some (V.ref a)) := by
  unfold adrs
  rw [List.mem_filterMap]
  constructor
  · rintro ⟨i, hi, h⟩
    refine ⟨i, hi, ?_⟩
    cases e : σ[i]? with
    | none => rw [e] at h; cases h
    | some x =>
      rw [e] at h
      cases x with
      | none => cases h
      | some v => cases v <;> first | (cases h; rfl) | cases h
  · rintro ⟨i, hi, h⟩
    exact ⟨i, hi, by rw [h]⟩
/-- what is frozen for the callee -/
def lent (F H : Hp) (bs : List Addr) : Hp := fun a => if a ∈ bs then H a else F a
theorem mk_ok (G : Good g B F H σ sl) : ∀ {ms : List Bool} {as : List AV} {vs : List V} {ar : List Arg} {is bs : List Nat}, AVs g B F H σ sl vs as → mkArgs sl ms as = some (ar, is, bs) →
    Owns σ sl is ∧ (∀ i ∈ is, i ∉ bs) ∧ is.Nodup ∧ (∀ i ∈ is, ∃ s d, sl[i]? = some s ∧ mutD s = some d) ∧ ∀ bs', (∀ i ∈ bs, ∀ b, Mine F σ sl i b → b ∈ bs') → (∀ a ∈ adrs σ is, a ∉ bs') → (∀ b ∈ bs', F b = none ∧ ∃ o, H b = some o) → ArgsOk g (lent F H bs') H (adrs σ is) vs ar := by
  intro ms
  induction ms with
  | nil =>
    intro as vs ar is bs x e
    cases as with
    | nil =>
      cases x
      cases e
      exact ⟨fun _ h => (nomatch h), fun _ h => (nomatch h), List.nodup_nil, fun _ h => (nomatch h), fun _ _ _ _ => .nil⟩
    | cons a as => cases e
  | cons m ms ih =>
    intro as vs ar is bs x e
    cases as with
    | nil => cases e
    | cons a as =>
      unfold mkArgs at e
      cases x with
      | @cons v _ vs' _ xa xs =>
        cases e1 : mkArgs sl ms as with
        | none => rw [e1] at e; cases e
        | some t =>
          obtain ⟨ar', is', bs'⟩ := t
          rw [e1] at e
          obtain ⟨o1, dj, nd, mu, ok⟩ := ih xs e1
          have leF : ∀ {bb : List Addr}, (∀ b ∈ bb, F b = none ∧ ∃ o, H b = some o) → Le F (lent F H bb) := fun {bb} h b o q => by
            unfold lent
            by_cases z : b ∈ bb
            · rw [(h b z).1] at q; cases q
            · rw [if_neg z]; exact q
          cases m with
          | false =>
            cases a with
            | v d =>
              cases e
              exact ⟨o1, dj, nd, mu, fun bb h1 h2 h3 => .v (Rep.mono (leF h3) xa) (ok bb h1 h2 h3)⟩
            | n d => cases e
            | t _ _ => cases e
            | p i k =>
              dsimp only at e
              cases e2 : sl[i]? with
              | none => simp only [e2] at e; cases e
              | some s =>
                simp only [e2] at e
                cases s with
                | sh ls ks =>
                  dsimp only at e
                  cases e3 : ks[k]? with
                  | none => simp only [e3] at e; cases e
                  | some kd =>
                    simp only [e3] at e
                    by_cases hc : is'.contains i = true
                    · rw [if_pos hc] at e; cases e
                    · rw [if_neg hc] at e
                      cases e
                      obtain ⟨q, xs', h1', h2', K, _⟩ := G.slot i _ e2
                      obtain ⟨ls', q', xs2, h3', h4', h5'⟩ := xa
                      rw [h1'] at h3'; cases h3'
                      have : xs2 = xs' := by
                        unfold ShellO at h2' h4'
                        rw [h2'] at h4'
                        cases ls <;> cases ls' <;> simp at h4' <;> exact h4'.symm
                      subst this
                      refine ⟨o1, fun j hj z => ?_, nd, mu, fun bb h1 h2 h3 => .v ?_ (ok bb (fun j hj => h1 j (List.mem_cons_of_mem _ hj)) h2 h3)⟩
                      · rcases List.mem_cons.mp z with rfl | z
                        · exact hc (by simpa using hj)
                        · exact dj j hj z
                      · have w := K.ok k v kd h5' e3
                        cases kd with
                        | fz d => exact Rep.mono (leF h3) w
                        | ow d =>
                          obtain ⟨a, rfl, n, c⟩ := w
                          have hb : a ∈ bb := h1 i List.mem_cons_self a (.inr ⟨ls, ks, q, xs2, e2, h1', h2', k, d, e3, h5'⟩)
                          exact c.rep (leF h3) (by unfold lent; rw [if_pos hb])
                | _ => cases e
            | s i =>
              dsimp only at e
              cases e2 : sl[i]? with
              | none => simp only [e2] at e; cases e
              | some s =>
                simp only [e2] at e
                cases e3 : mineD s with
                | none => simp only [e3] at e; cases e
                | some d =>
                  simp only [e3] at e
                  by_cases hc : is'.contains i = true
                  · rw [if_pos hc] at e; cases e
                  · rw [if_neg hc] at e
                    cases e
                    obtain ⟨ad, mi, ha, nF, c⟩ := G.mineAt e2 e3
                    obtain ⟨a', e4, e5⟩ := xa
                    subst e4
                    rw [ha] at e5; cases e5
                    refine ⟨o1, fun j hj z => ?_, nd, mu, fun bb h1 h2 h3 => ?_⟩
                    · rcases List.mem_cons.mp z with rfl | z
                      · exact hc (by simpa using hj)
                      · exact dj j hj z
                    · have hb : ad ∈ bb := h1 i List.mem_cons_self ad mi
                      exact .v (c.rep (leF h3) (by unfold lent; rw [if_pos hb])) (ok bb (fun j hj => h1 j (List.mem_cons_of_mem _ hj)) h2 h3)
          | true =>
            cases a with
            | v d => cases e
            | n d => cases e
            | t _ _ => cases e
            | p _ _ => cases e
            | s i =>
              dsimp only at e
              cases e2 : sl[i]? with
              | none => simp only [e2] at e; cases e
              | some s =>
                simp only [e2] at e
                cases e3 : mutD s with
                | none => simp only [e3] at e; cases e
                | some d =>
                  simp only [e3] at e
                  by_cases hc : (is'.contains i || bs'.contains i) = true
                  · rw [if_pos hc] at e; cases e
                  · rw [if_neg hc] at e
                    cases e
                    have hc1 : i ∉ is' := fun z => hc (by simp [z])
                    have hc2 : i ∉ bs := fun z => hc (by simp [z])
                    obtain ⟨ad, mi, ha, nF, c⟩ := G.mineAt e2 (mine_of_mut e3)
                    obtain ⟨a', e4, e5⟩ := xa
                    subst e4
                    rw [ha] at e5; cases e5
                    have ea : adrs σ (i :: is') = ad :: adrs σ is' := by unfold adrs; rw [List.filterMap_cons, ha]
                    refine ⟨fun j hj => ?_, fun j hj z => ?_, List.nodup_cons.mpr ⟨hc1, nd⟩, fun j hj => ?_, fun bb h1 h2 h3 => ?_⟩
                    · rcases List.mem_cons.mp hj with rfl | hj
                      · exact ⟨ad, ⟨s, d, e2, mine_of_mut e3⟩, ha⟩
                      · exact o1 j hj
                    · rcases List.mem_cons.mp hj with rfl | hj
                      · exact hc2 z
                      · exact dj j hj z
                    · rcases List.mem_cons.mp hj with rfl | hj
                      · exact ⟨s, d, e2, e3⟩
                      · exact mu j hj
                    · rw [ea] at h2 ⊢
                      have nb : ad ∉ bb := h2 ad List.mem_cons_self
                      refine .io (by unfold lent; rw [if_neg nb]; exact nF) (fun z => ?_) (c.mono (leF h3) rfl) (ok bb h1 (fun a ha => h2 a (List.mem_cons_of_mem _ ha)) h3)
                      obtain ⟨j, hj, q⟩ := mem_adrs.mp z
                      obtain ⟨b, mb⟩ := o1 j hj
                      have ne : i ≠ j := fun z => hc1 (z ▸ hj)
                      have eb : b = ad := by have := mb.2; rw [q] at this; cases this; rfl
                      exact G.apart i j ad ad ne mi (eb ▸ .inl mb) rfl
/-- what the slots are behind the write -/
theorem wb_slots : ∀ {is : List Nat} {ds : List D} {sl sl' : List Slot}, is.Nodup → wb is ds sl = some sl' → sl'.length = sl.length ∧ (∀ j, j ∉ is → sl'[j]? = sl[j]?) ∧
    ∀ (P : Nat → D → Prop), (∀ (n i : Nat) (d : D), is[n]? = some i → ds[n]? = some d → P i d) → ∀ i ∈ is, ∃ s d, sl[i]? = some s ∧ (∃ d0, mutD s = some d0) ∧ sl'[i]? = some (reD s d) ∧ P i d := by
  intro is
  induction is with
  | nil => intro ds sl sl' _ e; cases ds with
    | nil => cases e; exact ⟨rfl, fun _ _ => rfl, fun _ _ i h => nomatch h⟩
    | cons _ _ => cases e
  | cons i is ih =>
    intro ds sl sl' nd e
    cases ds with
    | nil => cases e
    | cons d ds =>
      unfold wb at e
      cases e1 : sl[i]? with
      | none => rw [e1] at e; cases e
      | some s =>
        rw [e1] at e
        dsimp only at e
        by_cases hm : (mutD s).isSome = true
        · rw [if_pos hm] at e
          have hi : i < sl.length := (List.getElem?_eq_some_iff.mp e1).1
          obtain ⟨n1, n2⟩ := List.nodup_cons.mp nd
          obtain ⟨l, o, w⟩ := ih n2 e
          refine ⟨by rw [l, List.length_set], fun j hj => ?_, fun P hP j hj => ?_⟩
          · have h1 : j ≠ i := fun z => hj (by rw [z]; exact List.mem_cons_self)
            rw [o j fun z => hj (List.mem_cons_of_mem _ z), List.getElem?_set_ne (Ne.symm h1)]
          · rcases List.mem_cons.mp hj with rfl | hj'
            · refine ⟨s, d, e1, Option.isSome_iff_exists.mp hm, ?_, hP 0 _ d rfl rfl⟩
              rw [o _ n1, List.getElem?_set_self hi]
            · have ne : j ≠ i := fun z => n1 (z ▸ hj')
              obtain ⟨s', d', q1, q2, q3, q4⟩ := w P (fun n i d h1 h2 => hP (n + 1) i d (by simpa using h1) (by simpa using h2)) j hj'
              rw [List.getElem?_set_ne (Ne.symm ne)] at q1
              exact ⟨s', d', q1, q2, q3, q4⟩
        · rw [if_neg hm] at e; cases e
theorem OutsOk.at : ∀ {A : List Addr} {os : List D}, OutsOk g F H A os → ∀ {n : Nat} {a : Addr} {d : D}, A[n]? = some a → os[n]? = some d → CellAt g F H a d
  | _, _, .nil, _, _, _, e, _ => by simp at e
  | _, _, .cons c r, 0, _, _, e1, e2 => by simp at e1 e2; subst e1; subst e2; exact c
  | _, _, .cons c r, n + 1, _, _, e1, e2 => OutsOk.at r (n := n) (by simpa using e1) (by simpa using e2)
theorem OutsOk.mem : ∀ {A : List Addr} {os : List D}, OutsOk g F H A os → ∀ a ∈ A, ∃ d, CellAt g F H a d
  | _, _, .nil, _, h => nomatch h
  | _, _, .cons c r, a, h => by
    rcases List.mem_cons.mp h with rfl | h
    · exact ⟨_, c⟩
    · exact OutsOk.mem r a h
theorem adrs_at : ∀ {is : List Nat}, Owns σ sl is → ∀ {n i : Nat}, is[n]? = some i → ∀ {a : Addr}, σ[i]? = some (some (V.ref a)) → (adrs σ is)[n]? = some a := by
  intro is
  induction is with
  | nil => intro _ n i e; simp at e
  | cons j is ih =>
    intro o n i e a ha
    obtain ⟨b, mb⟩ := o j List.mem_cons_self
    have ea : adrs σ (j :: is) = b :: adrs σ is := by unfold adrs; rw [List.filterMap_cons, mb.2]
    rw [ea]
    cases n with
    | zero => simp at e; subst e; have := mb.2; rw [ha] at this; cases this; rfl
    | succ n => simpa using ih (fun k hk => o k (List.mem_cons_of_mem _ hk)) (n := n) (by simpa using e) ha
/-- without what was lent -/
def unlent (F' : Hp) (bs : List Addr) : Hp := fun a => if a ∈ bs then none else F' a
theorem mine_after (G : Good g B F H σ sl) {F2 : Hp} (le : Le F F2) {is : List Nat} {os : List D} (o1 : Owns σ sl is) (nd : is.Nodup) (e : wb is os sl = some sl') {i : Nat} {a : Addr} (m : Mine F2 σ sl' i a) : Mine F σ sl i a := by
  obtain ⟨ln, oth, wr⟩ := wb_slots nd e
  by_cases hi : i ∈ is
  · obtain ⟨b, mb⟩ := o1 i hi
    rcases m with m | ⟨ls, ks, q, xs, q1, _⟩
    · have : b = a := by have q1 := mb.2; have q2 := m.2; rw [q1] at q2; cases q2; rfl
      exact this ▸ .inl mb
    · obtain ⟨s, d, h1, ⟨d0, h2⟩, h3, _⟩ := wr (fun _ _ => True) (fun _ _ _ _ _ => trivial) i hi
      rw [q1] at h3
      cases s <;> first | (cases h2; done) | (cases h3)
  · rcases m with ⟨⟨s, d, h1, h2⟩, h3⟩ | ⟨ls, ks, q, xs, h1, h3, h4, h5⟩
    · rw [oth i hi] at h1
      exact .inl ⟨⟨s, d, h1, h2⟩, h3⟩
    · rw [oth i hi] at h1
      exact G.mineBack le (.inr ⟨ls, ks, q, xs, h1, h3, h4, h5⟩)
theorem good_after (G : Good g B F H σ sl) {is bs : List Nat} {os : List D} (o1 : Owns σ sl is) (dj : ∀ i ∈ is, i ∉ bs) (nd : is.Nodup) (R : RetOk g (lent F H (lents F σ sl bs)) H (adrs σ is) F' H' os) (e : wb is os sl = some sl')
    (sol : bs = [] ∨ os.all solidK = true) :
    Le F (unlent F' (lents F σ sl bs)) ∧ Good g B (unlent F' (lents F σ sl bs)) H' σ sl' ∧ (∀ a o, F' a = some o → cellO o = false → unlent F' (lents F σ sl bs) a = some o) := by
  have bF : ∀ b ∈ lents F σ sl bs, F b = none ∧ ∃ o, H b = some o ∧ cellO o = true := fun b hb => by
    obtain ⟨i, hi, m⟩ := mem_lents.mp hb
    obtain ⟨n, d, c⟩ := G.mine m
    obtain ⟨o, ho, hc⟩ := c.obj'
    exact ⟨n, o, ho, hc⟩
  have leL : Le F (lent F H (lents F σ sl bs)) := fun b o q => by
    unfold lent
    by_cases z : b ∈ lents F σ sl bs
    · rw [(bF b z).1] at q; cases q
    · rw [if_neg z]; exact q
  have le : Le F (unlent F' (lents F σ sl bs)) := fun b o q => by
    unfold unlent
    by_cases z : b ∈ lents F σ sl bs
    · rw [(bF b z).1] at q; cases q
    · rw [if_neg z]; exact R.f _ _ (leL _ _ q)
  have isA : ∀ {a : Addr}, a ∈ adrs σ is → ∃ i ∈ is, Flat σ sl i a := fun {a} ha => by
    obtain ⟨i, hi, q⟩ := mem_adrs.mp ha
    obtain ⟨b, m⟩ := o1 i hi
    have : b = a := by have := m.2; rw [q] at this; cases this; rfl
    subst this
    exact ⟨i, hi, m⟩
  have keepO : ∀ {a : Addr} {o : HO}, H a = some o → a ∉ adrs σ is → H' a = some o := fun h n => R.keep _ _ h n
  have noneF : ∀ {a : Addr} {o : HO}, H a = some o → F a = none → unlent F' (lents F σ sl bs) a = none := fun {a o} h n => by
    unfold unlent
    by_cases z : a ∈ lents F σ sl bs
    · rw [if_pos z]
    · rw [if_neg z]
      cases q : F' a with
      | none => rfl
      | some u =>
        have y := R.fresh a u q (by unfold lent; rw [if_neg z]; exact n)
        rw [h] at y; cases y
  have kp : ∀ a o, F' a = some o → cellO o = false → unlent F' (lents F σ sl bs) a = some o := fun a o h1 h2 => by
    unfold unlent
    by_cases z : a ∈ lents F σ sl bs
    · obtain ⟨_, u, hu, hc⟩ := bF a z
      have y := R.f a u (by unfold lent; rw [if_pos z]; exact hu)
      rw [h1] at y; cases y
      rw [h2] at hc; cases hc
    · rw [if_neg z]; exact h1
  have leU : bs = [] → unlent F' (lents F σ sl bs) = F' := fun z => by
    subst z
    funext a
    unfold unlent
    rw [if_neg (by intro h; cases h)]
  obtain ⟨ln, oth, wr⟩ := wb_slots nd e
  have wr' := wr (fun i d => ∀ a, σ[i]? = some (some (V.ref a)) → CellAt g F' H' a d ∧ d ∈ os) fun n i d h1 h2 a ha => ⟨R.outs.at (adrs_at o1 h1 ha) h2, List.mem_of_getElem? h2⟩
  have mine' : ∀ {i : Nat} {a : Addr}, Mine (unlent F' (lents F σ sl bs)) σ sl' i a → Mine F σ sl i a := fun m => mine_after G le o1 nd e m
  refine ⟨le, ⟨fun a o h => ?_, G.ext.trans le, fun a o h n => ?_, fun a o h n => ?_, fun a ha => ?_, fun i s h => ?_, fun i j a b ne m1 m2 => G.apart i j a b ne (mine' m1) (mine' m2), by rw [ln]; exact G.len, fun i j k ls ks e1 e2 => ?_⟩, kp⟩
  · unfold unlent at h
    by_cases z : a ∈ lents F σ sl bs
    · rw [if_pos z] at h; cases h
    · rw [if_neg z] at h; exact R.sub _ _ h
  · cases q : F a with
    | some u => exact G.new a u q n
    | none =>
      unfold unlent at h
      by_cases z : a ∈ lents F σ sl bs
      · rw [if_pos z] at h; cases h
      · rw [if_neg z] at h
        exact .inl (G.freshH0 (R.fresh a o h (by unfold lent; rw [if_neg z]; exact q)))
  · have h' := G.keep a o h n
    refine keepO h' fun z => ?_
    obtain ⟨i, hi, m⟩ := isA z
    rcases G.mineOwn (.inl m) with w | w
    · rw [h] at w; cases w
    · exact n w
  · obtain ⟨o, ho⟩ := G.live a ha
    by_cases z : a ∈ adrs σ is
    · obtain ⟨d, c⟩ := R.outs.mem a z
      obtain ⟨u, hu, _⟩ := c.obj'
      exact ⟨u, hu⟩
    · exact ⟨o, keepO ho z⟩
  · by_cases hi : i ∈ is
    · obtain ⟨s0, d, h1, ⟨d0, hd0⟩, h3, h4⟩ := wr' i hi
      rw [h] at h3; cases h3
      obtain ⟨a, mi, ha, nF, c⟩ := G.mineAt h1 (mine_of_mut hd0)
      obtain ⟨c', hd⟩ := h4 a ha
      obtain ⟨u, hu, _⟩ := c.obj'
      have c2 : CellAt g (unlent F' (lents F σ sl bs)) H' a d := by
        rcases sol with z | z
        · rw [leU z]; exact c'
        · exact c'.solid kp rfl (by rw [List.all_eq_true] at z; exact z d hd)
      have q := G.slot i s0 h1
      cases s0 with
      | own d' => obtain ⟨b, e, _, w, _⟩ := q; rw [ha] at e; cases e; exact ⟨a, ha, noneF hu nF, w, c2⟩
      | io d' => obtain ⟨b, e, _, w, _⟩ := q; rw [ha] at e; cases e; exact ⟨a, ha, noneF hu nF, w, c2⟩
      | _ => cases hd0
    · rw [oth i hi] at h
      have q := G.slot i s h
      have na : ∀ {a : Addr}, Mine F σ sl i a → a ∉ adrs σ is := fun {a} m z => by
        obtain ⟨j, hj, mj⟩ := isA z
        exact G.apart i j a a (fun z => hi (z ▸ hj)) m (.inl mj) rfl
      cases s with
      | emp => trivial
      | val d => obtain ⟨v, h1, r⟩ := q; exact ⟨v, h1, r.mono le⟩
      | own d => obtain ⟨a, h1, n, w, c⟩ := q; obtain ⟨u, hu, _⟩ := c.obj'; exact ⟨a, h1, noneF hu n, w, c.mono le ((keepO hu (na (.inl ⟨⟨_, _, h, rfl⟩, h1⟩))).trans hu.symm)⟩
      | io d => obtain ⟨a, h1, n, w, c⟩ := q; obtain ⟨u, hu, _⟩ := c.obj'; exact ⟨a, h1, noneF hu n, w, c.mono le ((keepO hu (na (.inl ⟨⟨_, _, h, rfl⟩, h1⟩))).trans hu.symm)⟩
      | lock b d => obtain ⟨a, h1, n, w, c⟩ := q; obtain ⟨u, hu, _⟩ := c.obj'; exact ⟨a, h1, noneF hu n, w, c.mono le ((keepO hu (na (.inl ⟨⟨_, _, h, rfl⟩, h1⟩))).trans hu.symm)⟩
      | sh ls ks =>
        obtain ⟨b, xs, h1, h2, K, w⟩ := q
        refine ⟨b, xs, h1, h2.le le, K.mono le fun a ka => ?_, w⟩
        obtain ⟨n, d, c⟩ := K.own ka
        obtain ⟨u, hu, _⟩ := c.obj'
        exact ⟨noneF hu n, (keepO hu (na (.inr ⟨ls, ks, b, xs, h, h1, h2, ka⟩))).trans hu.symm⟩
      | al _ _ => trivial
      | exc c ns vs =>
        obtain ⟨b, oe, dd, h1, h2, h3, h4, fs, h5, h6, h7⟩ := q
        have nd : dd ∉ adrs σ is := fun z => by
          obtain ⟨j, _, mj⟩ := isA z
          obtain ⟨_, d0, c0⟩ := G.mine (.inl mj)
          obtain ⟨o0, ho, hc⟩ := c0.obj'
          rw [h5] at ho; cases ho; cases hc
        exact ⟨b, oe, dd, h1, h2, h3, h4, fs, keepO h5 nd, h6, h7.mono le⟩
  · have flat : ∀ {i : Nat} {s : Slot}, sl'[i]? = some s → (∀ d : D, mutD s ≠ some d) → sl[i]? = some s := fun {i s} h z => by
      by_cases hi : i ∈ is
      · obtain ⟨s0, d, h1, ⟨d0, hd0⟩, h3, _⟩ := wr' i hi
        rw [h] at h3; cases h3
        cases s0 with
        | own d' => exact absurd rfl (z d)
        | io d' => exact absurd rfl (z d)
        | _ => cases hd0
      · rw [← oth i hi]; exact h
    exact (G.alsLe le) i j k ls ks (flat e1 fun d z => by cases z) (flat e2 fun d z => by cases z)
theorem call_imp {np : Nat} {Fm : FM} {modes : List Bool} {l : LM} (hn : ∀ sl as sl', l sl = .ok as sl' → as.length = np) (h : tE g B W (eCall Fm modes l) σ H Q) : tCallS (spF g.cA g.K np Fm) (WE W) (tL g B W l) σ H Q := by
  obtain ⟨F, sl, G, p⟩ := h
  refine ⟨F, sl, G, ?_⟩
  unfold eCall at p
  cases e : l sl with
  | bad => rw [e] at p; exact p
  | err c ns vs sl' => rw [e] at p; exact p
  | ok as sl1 =>
    rw [e] at p
    intro vs F1 H1 le1 G1 xs
    have lv : vs.length = np := by
      rw [← hn _ _ _ e]
      clear p e
      induction xs with
      | nil => rfl
      | cons _ _ ih => simp [ih]
    dsimp only at p
    cases e2 : mkArgs sl1 modes as with
    | none => rw [e2] at p; exact p.elim
    | some t =>
      obtain ⟨ar, is, bs⟩ := t
      rw [e2] at p
      dsimp only at p
      obtain ⟨o1, dj, nd, mu, ok⟩ := mk_ok G1 xs e2
      have bF : ∀ b ∈ lents F1 σ sl1 bs, F1 b = none ∧ ∃ o, H1 b = some o := fun b hb => by
        obtain ⟨i, hi, m⟩ := mem_lents.mp hb
        obtain ⟨n, d, c⟩ := G1.mine m
        obtain ⟨o, ho, hc⟩ := c.obj'
        exact ⟨n, o, ho⟩
      have ha := ok (lents F1 σ sl1 bs) (fun i hi b m => mem_lents.mpr ⟨i, hi, m⟩) (fun a ha z => by
        obtain ⟨i, hi, q⟩ := mem_adrs.mp ha
        obtain ⟨j, hj, m2⟩ := mem_lents.mp z
        obtain ⟨a1, m1⟩ := o1 i hi
        have h1 : a1 = a := by have := m1.2; rw [q] at this; cases this; rfl
        exact G1.apart i j a1 a (fun z => dj i hi (z ▸ hj)) (.inl m1) m2 h1) bF
      have sub : Le (lent F1 H1 (lents F1 σ sl1 bs)) H1 := fun b o q => by
        unfold lent at q
        by_cases z : b ∈ lents F1 σ sl1 bs
        · rw [if_pos z] at q; exact q
        · rw [if_neg z] at q; exact G1.sub b o q
      refine ⟨lv, lent F1 H1 (lents F1 σ sl1 bs), adrs σ is, ar, sub, ha, ?_⟩
      cases er : Fm ar with
      | bad => rw [er] at p; exact p
      | err c ns es outs =>
        rw [er] at p
        simp only [callR] at p
        cases ew : wb is outs sl1 with
        | none => simp only [ew] at p; exact p.elim
        | some sl2 =>
          simp only [ew] at p
          by_cases ho : okErr bs es outs = true
          · rw [if_pos ho] at p
            intro dd F2 H2 R x
            have sol : bs = [] ∨ (solids es = true ∧ outs.all solidK = true) := by
              unfold okErr at ho
              rcases Bool.or_eq_true_iff.mp ho with z | z
              · exact .inl (List.isEmpty_iff.mp z)
              · exact .inr (Bool.and_eq_true_iff.mp z)
            obtain ⟨le, G2, kp⟩ := good_after G1 o1 dj nd R ew (sol.imp id (·.2))
            refine p dd _ H2 (le1.trans le) G2 ?_
            obtain ⟨fs, q1, q2, q3⟩ := x
            refine ⟨fs, q1, q2, ?_⟩
            rcases sol with z | z
            · subst z
              refine q3.mono fun a o h => ?_
              unfold unlent
              rw [if_neg (by intro h; cases h)]; exact h
            · exact q3.solid kp z.1
          · rw [if_neg ho] at p; exact p.elim
      | okT ls ks outs =>
        rw [er] at p
        simp only [callR] at p
        cases ew : wb is outs sl1 with
        | none => simp only [ew] at p; exact p.elim
        | some sl2 =>
          simp only [ew] at p
          by_cases ho : okRetT bs ks outs = true
          · rw [if_pos ho] at p
            intro v F2 H2 R x
            have sol : bs = [] ∨ (ks.all solidT = true ∧ outs.all solidK = true) := by
              unfold okRetT at ho
              rcases Bool.or_eq_true_iff.mp ho with z | z
              · exact .inl (List.isEmpty_iff.mp z)
              · exact .inr (Bool.and_eq_true_iff.mp z)
            obtain ⟨le, G2, kp⟩ := good_after G1 o1 dj nd R ew (sol.imp id (·.2))
            refine p v _ H2 (le1.trans le) G2 ?_
            obtain ⟨q, ys, e1, h1, h0, K, w⟩ := (show ∃ q xs, v = .ref q ∧ ShellO ls F2 q xs ∧ H1 q = none ∧ Kids g F2 H2 xs ks ∧ ∀ a, KidA xs ks a → H1 a = none from x)
            have nl : ∀ {a : Addr}, H1 a = none → a ∉ lents F1 σ sl1 bs := fun {a} n z => by obtain ⟨_, o, ho⟩ := bF a z; rw [n] at ho; cases ho
            have un : ∀ {a : Addr}, H1 a = none → unlent F2 (lents F1 σ sl1 bs) a = F2 a := fun {a} n => if_neg (nl n)
            refine ⟨q, ys, e1, by unfold ShellO; rw [un h0]; exact h1, G1.freshH0 h0, ⟨K.len, fun k v kd q1 q2 => ?_, K.inj⟩, fun a ka => ⟨G1.freshH0 (w a ka), fun i b m => G1.mineNe (w a ka) i b (mine_after G1 le o1 nd ew m)⟩⟩
            have y := K.ok k v kd q1 q2
            rcases sol with z | z
            · have leU : Le F2 (unlent F2 (lents F1 σ sl1 bs)) := fun a o h => by
                subst z
                unfold unlent
                rw [if_neg (by intro h; cases h)]; exact h
              cases kd with
              | fz d => exact Rep.mono leU y
              | ow d => obtain ⟨a, ea, n, c⟩ := y; subst ea; exact ⟨a, rfl, by rw [un (w a ⟨k, d, q2, q1⟩)]; exact n, c.mono leU rfl⟩
            · have sk : solidT kd = true := by have := z.1; rw [List.all_eq_true] at this; exact this kd (List.mem_of_getElem? q2)
              cases kd with
              | fz d => exact Rep.solid kp y sk
              | ow d => obtain ⟨a, ea, n, c⟩ := y; subst ea; exact ⟨a, rfl, by rw [un (w a ⟨k, d, q2, q1⟩)]; exact n, c.solid kp rfl sk⟩
          · rw [if_neg ho] at p; exact p.elim
      | ok d fr outs =>
        rw [er] at p
        simp only [callR] at p
        cases ew : wb is outs sl1 with
        | none => simp only [ew] at p; exact p.elim
        | some sl2 =>
          simp only [ew] at p
          by_cases ho : okRet bs d fr outs = true
          · rw [if_pos ho] at p
            intro v F2 H2 R x
            have sol : bs = [] ∨ ((if fr then solidK d else solid d) = true ∧ outs.all solidK = true) := by
              unfold okRet at ho
              rcases Bool.or_eq_true_iff.mp ho with z | z
              · exact .inl (List.isEmpty_iff.mp z)
              · exact .inr (Bool.and_eq_true_iff.mp z)
            obtain ⟨le, G2, kp⟩ := good_after G1 o1 dj nd R ew (sol.imp id (·.2))
            have leU : bs = [] → Le F2 (unlent F2 (lents F1 σ sl1 bs)) := fun z a o h => by
              subst z
              unfold unlent
              rw [if_neg (by intro h; cases h)]; exact h
            refine p v _ H2 (le1.trans le) G2 ?_
            cases fr with
            | false =>
              have x' : Rep g F2 v d := x
              show Rep g _ v d
              rcases sol with z | z
              · exact x'.mono (leU z)
              · exact x'.solid kp z.1
            | true =>
              obtain ⟨q, e1, n1, n2, c⟩ := (show ∃ q, v = .ref q ∧ H1 q = none ∧ F2 q = none ∧ CellAt g F2 H2 q d from x)
              refine ⟨q, e1, ?_, G1.freshH0 n1, fun i b m => G1.mineNe n1 i b (mine_after G1 le o1 nd ew m), ?_⟩
              · unfold unlent
                by_cases z : q ∈ lents F1 σ sl1 bs
                · rw [if_pos z]
                · rw [if_neg z]; exact n2
              · rcases sol with z | z
                · exact c.mono (leU z) rfl
                · exact c.solid kp rfl z.1
          · rw [if_neg ho] at p; exact p.elim
end calls

theorem se_call {cA : Nat → Addr} {X : Cx} {k np : Nat} {f : Addr} {fd : FuncData} {ps : List Str} {Fm : FM} {modes : List Bool} {l : LM} {x : Str} {p pos : Pos} {e : Expr} {es : List Expr} (F : FnOk X.prog X.w X.K X.mg X.base (L2.CX X.prog X.w) k f fd ps (spF cA X.K np Fm)) (hr : Room k X.A) (hg : L2.Gl X x) (hm : X.mg x = some (.ref f))
    (hk : PySem.W.keepIn X.K (.ref f) = true) (hb : Binds X.K fd ps []) (ha : SL cA X l (e :: es)) (hn : ∀ sl as sl', l sl = .ok as sl' → as.length = np)
    (hdb : (x == ("__debug__" : Str)) = false := by decide) (he : starEach (e :: es) X.env = (false, eval e X.env) :: starEach es X.env := by rfl) (hpl : (backTo pos (starEach es X.env)).any (·.1) = false := by rfl) : SE cA X (eCall Fm modes l) (.Call (.Name x p) (e :: es) [] pos) :=
  ⟨fun B W tk => (pe_callS F hr hg hm hk hb (fun σ => passAt tk.t σ) (ha.run B W tk) hdb he hpl).of fun _ _ _ h => call_imp (g := gx X cA) hn h⟩
end Za
end
section
set_option Elab.async false
set_option linter.all false
set_option maxRecDepth 100000
set_option maxHeartbeats 2000000
namespace Za
open PySem PySem.Spec PyProof.Rows L2

/-! ### comprehensions -/
def emps (vs : List Nat) (sl : List Slot) : Bool := vs.all fun i => match sl[i]? with
  | some .emp => true
  | _ => false
def wipeS : List Nat → List Slot → List Slot
  | [], sl => sl
  | v :: vs, sl => (wipeS vs sl).set v .emp
section wp
variable {g : G0} {B : Base} {F H : Hp} {σ : St} {sl : List Slot}
theorem wipeS_len : ∀ {vs : List Nat}, (wipeS vs sl).length = sl.length
  | [] => rfl
  | v :: vs => by unfold wipeS; rw [List.length_set, wipeS_len]
theorem wipeS_emp : ∀ {vs : List Nat}, emps vs sl = true → wipeS vs sl = sl
  | [], _ => rfl
  | v :: vs, h => by
    unfold emps at h
    rw [List.all_cons, Bool.and_eq_true] at h
    have ih : wipeS vs sl = sl := wipeS_emp (vs := vs) h.2
    unfold wipeS
    rw [ih]
    have h1 := h.1
    cases e : sl[v]? with
    | none => rw [e] at h1; cases h1
    | some s =>
      rw [e] at h1
      cases s with
      | emp =>
        obtain ⟨hv, ev⟩ := List.getElem?_eq_some_iff.mp e
        exact List.ext_getElem? fun i => by
          by_cases q : v = i
          · subst q; rw [List.getElem?_set_self hv, e]
          · rw [List.getElem?_set_ne q]
      | _ => cases h1
theorem Good.wipe (G : Good g B F H σ sl) : ∀ {vs : List Nat}, (∀ v ∈ vs, v < sl.length) → Good g B F H (L2.wipe σ vs) (wipeS vs sl)
  | [], _ => G
  | v :: vs, h => by
    have ih : Good g B F H (L2.wipe σ vs) (wipeS vs sl) := Good.wipe G fun w hw => h w (List.mem_cons_of_mem _ hw)
    exact ih.setEmp (by rw [wipeS_len]; exact h v List.mem_cons_self)
/-- the names' slots, empty, may hold anything -/
theorem Good.unwipe {vs : List Nat} (G : Good g B F H (L2.wipe σ vs) sl) (he : emps vs sl = true) : Good g B F H σ sl := by
  have em : ∀ {i : Nat}, i ∈ vs → sl[i]? = some .emp := fun {i} hi => by
    unfold emps at he
    rw [List.all_eq_true] at he
    have := he i hi
    cases e : sl[i]? with
    | none => rw [e] at this; cases this
    | some s => rw [e] at this; cases s <;> first | rfl | cases this
  have mm : ∀ {i : Nat} {a : Addr}, Mine F σ sl i a → Mine F (L2.wipe σ vs) sl i a := fun {i a} m => by
    rcases m with ⟨⟨s, d, h1, h2⟩, h3⟩ | ⟨ls, ks, q, xs, h1, h3, h4⟩
    · have ni : i ∉ vs := fun z => by rw [em z] at h1; cases h1; cases h2
      exact .inl ⟨⟨s, d, h1, h2⟩, by rw [wipe_out ni]; exact h3⟩
    · have ni : i ∉ vs := fun z => by rw [em z] at h1; cases h1
      exact .inr ⟨ls, ks, q, xs, h1, by rw [wipe_out ni]; exact h3, h4⟩
  refine ⟨G.sub, G.ext, G.new, G.keep, G.live, fun i s e => ?_, fun i j a b ne m1 m2 => G.apart i j a b ne (mm m1) (mm m2), by rw [← G.len, wipe_length], fun i j k ls ks e1 e2 => by
    have n1 : i ∉ vs := fun z => by rw [em z] at e1; cases e1
    have n2 : j ∉ vs := fun z => by rw [em z] at e2; cases e2
    obtain ⟨q, xs, v, h1, h2, h3, h4⟩ := G.als i j k ls ks e1 e2
    exact ⟨q, xs, v, by rw [← h1, wipe_out n2], h2, h3, by rw [← h4, wipe_out n1]⟩⟩
  by_cases ni : i ∈ vs
  · rw [em ni] at e; cases e; trivial
  · have q := G.slot i s e
    have w : (L2.wipe σ vs)[i]? = σ[i]? := wipe_out ni
    cases s with
    | emp => trivial
    | val d => obtain ⟨v, h, r⟩ := q; exact ⟨v, by rw [← w]; exact h, r⟩
    | own d => obtain ⟨a, h, r⟩ := q; exact ⟨a, by rw [← w]; exact h, r⟩
    | io d => obtain ⟨a, h, r⟩ := q; exact ⟨a, by rw [← w]; exact h, r⟩
    | lock b d => obtain ⟨a, h, r⟩ := q; exact ⟨a, by rw [← w]; exact h, r⟩
    | exc c ns vs => obtain ⟨a, oe, dd, h1, h2, h3⟩ := q; exact ⟨a, oe, dd, h1, by rw [← w]; exact h2, h3⟩
    | sh ls ks => obtain ⟨b, xs, h1, h2⟩ := q; exact ⟨b, xs, by rw [← w]; exact h1, h2⟩
    | al _ _ => trivial
end wp

theorem mine_wipe {F : Hp} : ∀ (vs : List Nat) (s3 : List Slot) (τ : St) {i : Nat} {b : Addr}, Mine F (L2.wipe τ vs) (wipeS vs s3) i b → Mine F τ s3 i b := by
  intro vs
  induction vs with
  | nil => intro s3 τ i b m; exact m
  | cons v vs ih =>
    intro s3 τ i b m
    by_cases e : i = v
    · subst e
      have no : ∀ {w : V}, (L2.wipe τ (i :: vs))[i]? ≠ some (some w) := fun {w} q3 => by
        unfold L2.wipe at q3
        by_cases hv : i < (L2.wipe τ vs).length
        · rw [List.getElem?_set_self hv] at q3; cases q3
        · rw [List.getElem?_eq_none (by simpa using hv)] at q3; cases q3
      rcases m with ⟨_, q3⟩ | ⟨ls, ks, q, xs, _, q3, _⟩
      · exact absurd q3 no
      · exact absurd q3 no
    · exact ih s3 τ (Mine.other m e)
def tYesM : TM := fun sl => .ok true sl
/-- the turns: what is made so far, the slots -/
def lcL (ok : List Slot → Bool) (vs : List Nat) (b : BM) (t : TM) (m : EM) : List D → List D → List Slot → Option (List D × List Slot)
  | [], acc, sl => some (acc, sl)
  | d :: ds, acc, sl => match b d sl with
    | none => none
    | some s1 => (match t s1 with
      | .ok true s2 => (match m s2 with
        | .ok a s3 => (match frz a with
          | .v y => if ok (wipeS vs s3) && decide (acc.length ≤ most) then lcL ok vs b t m ds (acc ++ [y]) (wipeS vs s3) else none
          | _ => none)
        | _ => none)
      | .ok false s2 => if ok (wipeS vs s2) then lcL ok vs b t m ds acc (wipeS vs s2) else none
      | _ => none)
def lcRun (ok : List Slot → Bool) (vs : List Nat) (b : BM) (t : TM) (m : EM) (ds : List D) (sl : List Slot) : ER :=
  if emps vs sl then (match lcL ok vs b t m ds [] sl with
    | some (acc, s) => if emps vs s then .ok (.n (.lst acc)) s else .bad
    | none => .bad) else .bad
def unlE (k : Nat) : ER → ER
  | .ok a sl => (match unlk k sl with | some s => .ok a s | none => .bad)
  | .err c ns vs sl => (match unlk k sl with | some s => .err c ns vs s | none => .bad)
  | .bad => .bad
/-- a loop over items, locked or not -/
def withLk (im : IM) (run : (List Slot → Bool) → List D → List Slot → ER) : EM := fun sl => match im sl with
  | .ok ds none sl' => run (fun _ => true) ds sl'
  | .ok ds (some k) sl' => (match sl'[k]? with
    | some (.lock _ _) => if lkIs k ds sl' then run (lkIs k ds) ds sl' else .bad
    | some s => (match lockS s with
      | some s' => if lkIs k ds (sl'.set k s') then unlE k (run (lkIs k ds) ds (sl'.set k s')) else .bad
      | none => .bad)
    | none => .bad)
  | .err c ns vs sl' => .err c ns vs sl'
  | .bad => .bad
def eLc (im : IM) (vs : List Nat) (b : BM) (t : TM) (m : EM) : EM := withLk im fun ok ds sl => lcRun ok vs b t m ds sl

/-- a target stores to names of the block alone -/
def TWipe (t : TG) (vs : List Nat) : Prop := ∀ (v : V) (σ : St) (H : Hp) (Q : St → Hp → Prop), t v σ H (fun σ' H' => H' = H → L2.wipe σ' vs = L2.wipe σ vs → Q σ' H') → t v σ H Q
theorem wipe_set {σ : St} {x : Option V} : ∀ {vs : List Nat} {i : Nat}, i ∈ vs → L2.wipe (σ.set i x) vs = L2.wipe σ vs
  | [], i, h => nomatch h
  | v :: vs, i, h => by
    unfold L2.wipe
    by_cases q : i ∈ vs
    · rw [wipe_set q]
    · have e : i = v := by
        rcases List.mem_cons.mp h with h | h
        · exact h
        · exact absurd h q
      subst e
      have all : ∀ vs : List Nat, i ∉ vs → L2.wipe (σ.set i x) vs = (L2.wipe σ vs).set i x := by
        intro vs
        induction vs with
        | nil => intro _; rfl
        | cons w ws ih =>
          intro hn
          unfold L2.wipe
          rw [ih fun z => hn (List.mem_cons_of_mem _ z), List.set_comm _ _ (fun z => hn (by rw [z]; exact List.mem_cons_self))]
      rw [all vs q, List.set_set]
theorem tw_name {i : Nat} {vs : List Nat} (h : i ∈ vs) : TWipe (gName i) vs := fun v σ H Q q => q rfl (wipe_set h)
theorem tw_nil {vs : List Nat} : ∀ (xs : List V) (σ : St) (H : Hp) (Q : St → Hp → Prop), gNil xs σ H (fun σ' H' => H' = H → L2.wipe σ' vs = L2.wipe σ vs → Q σ' H') → gNil xs σ H Q := fun xs σ H Q ⟨e, q⟩ => ⟨e, q rfl rfl⟩
theorem tw_cons {t : TG} {u : TGs} {vs : List Nat} (tm : ∀ v σ H Q Q', (∀ a b, Q a b → Q' a b) → t v σ H Q → t v σ H Q') (um : ∀ v σ H Q Q', (∀ a b, Q a b → Q' a b) → u v σ H Q → u v σ H Q') (h1 : TWipe t vs)
    (h2 : ∀ (xs : List V) (σ : St) (H : Hp) (Q : St → Hp → Prop), u xs σ H (fun σ' H' => H' = H → L2.wipe σ' vs = L2.wipe σ vs → Q σ' H') → u xs σ H Q) :
    ∀ (xs : List V) (σ : St) (H : Hp) (Q : St → Hp → Prop), gCons t u xs σ H (fun σ' H' => H' = H → L2.wipe σ' vs = L2.wipe σ vs → Q σ' H') → gCons t u xs σ H Q := fun xs σ H Q ⟨v, r, e, q⟩ =>
  ⟨v, r, e, h1 v σ H _ (tm _ _ _ _ _ (fun σ1 H1 q1 e1 w1 => h2 r σ1 H1 Q (um _ _ _ _ _ (fun σ2 H2 q2 e2 w2 => q2 (e2.trans e1) (w2.trans w1)) q1)) q)⟩
theorem gm_name {i : Nat} : ∀ v σ H Q Q', (∀ a b, Q a b → Q' a b) → gName i v σ H Q → gName i v σ H Q' := fun _ _ _ _ _ h q => h _ _ q
theorem gm_nil : ∀ v σ H Q Q', (∀ a b, Q a b → Q' a b) → gNil v σ H Q → gNil v σ H Q' := fun _ _ _ _ _ h ⟨e, q⟩ => ⟨e, h _ _ q⟩
theorem gm_cons {t : TG} {u : TGs} (tm : ∀ v σ H Q Q', (∀ a b, Q a b → Q' a b) → t v σ H Q → t v σ H Q') (um : ∀ v σ H Q Q', (∀ a b, Q a b → Q' a b) → u v σ H Q → u v σ H Q') : ∀ v σ H Q Q', (∀ a b, Q a b → Q' a b) → gCons t u v σ H Q → gCons t u v σ H Q' :=
  fun v σ H Q Q' h ⟨x, r, e, q⟩ => ⟨x, r, e, tm _ _ _ _ _ (fun σ1 H1 q1 => um _ _ _ _ _ h q1) q⟩
theorem tw_tup {K : PySem.W.Frag} {n : Nat} {u : TGs} {vs : List Nat} (h2 : ∀ (xs : List V) (σ : St) (H : Hp) (Q : St → Hp → Prop), u xs σ H (fun σ' H' => H' = H → L2.wipe σ' vs = L2.wipe σ vs → Q σ' H') → u xs σ H Q) : TWipe (gTup K n u) vs :=
  fun v σ H Q ⟨a, xs, e, hs, hl, q⟩ => ⟨a, xs, e, hs, hl, h2 xs σ H Q q⟩

section comp
variable {cA : Nat → Addr} {X : Cx} {g : G0} {B : Base} {W : WX} {F F' H H' : Hp} {σ : St} {sl sl' : List Slot} {Q : VK}
abbrev W0 : WX := fun _ _ _ _ => False
/-- within a comprehension nothing is handled, nothing is raised -/
abbrev tTX (g : G0) (t : TM) : TT := fun σ H Q => ∃ B, B.ex = none ∧ tT g B W0 t σ H Q
abbrev tEX (g : G0) (m : EM) : TE := fun σ H Q => ∃ B, B.ex = none ∧ tE g B W0 m σ H Q
theorem ST.any {m : TM} {e : Expr} (h : ST cA X m e) : PT X e (tTX (gx X cA) m) := ⟨fun p s σ H Q I ⟨B, n, w⟩ => (h.run B W0 ⟨fun q z => (by rw [n] at z; cases z), takes0⟩).run p s σ H Q I w⟩
theorem SE.any {m : EM} {e : Expr} (h : SE cA X m e) : PE X e (tEX (gx X cA) m) := ⟨fun p s σ H Q I ⟨B, n, w⟩ => (h.run B W0 ⟨fun q z => (by rw [n] at z; cases z), takes0⟩).run p s σ H Q I w⟩
theorem Tk.noEx (hc : X.calm = true) (tk : Tk X B W) : B.ex = none := by
  cases e : B.ex with
  | none => rfl
  | some p => have := (tk.b p e).1; rw [hc] at this; cases this
/-- an object that no slot knows changes -/
theorem Good.updOther (G : Good g B F H σ sl) {A : Addr} {o : HO} {xs0 : List V} (hA : H A = some (.lst xs0)) (nF : F A = none) (n0 : B.H0 A = none) (nm : ∀ i b, Mine F σ sl i b → b ≠ A) : Good g B F (upd H A o) σ sl where
  sub := fun a u h => by rw [upd_ne (ne_of_none h nF)]; exact G.sub a u h
  ext := G.ext
  new := G.new
  keep := fun a u h n => by rw [upd_ne (ne_of_none h n0)]; exact G.keep a u h n
  live := fun a h => by
    by_cases z : a = A
    · subst z; exact ⟨o, upd_same⟩
    · rw [upd_ne z]; exact G.live a h
  slot := fun i s e => by
    have q := G.slot i s e
    cases s with
    | emp => trivial
    | val d => exact q
    | own d => obtain ⟨a, h, n, w, c⟩ := q; exact ⟨a, h, n, w, c.mono (.refl _) (upd_ne (nm i a (.inl ⟨⟨_, _, e, rfl⟩, h⟩)))⟩
    | io d => obtain ⟨a, h, n, w, c⟩ := q; exact ⟨a, h, n, w, c.mono (.refl _) (upd_ne (nm i a (.inl ⟨⟨_, _, e, rfl⟩, h⟩)))⟩
    | lock b d => obtain ⟨a, h, n, w, c⟩ := q; exact ⟨a, h, n, w, c.mono (.refl _) (upd_ne (nm i a (.inl ⟨⟨_, _, e, rfl⟩, h⟩)))⟩
    | exc c ns vs =>
      obtain ⟨b, oe, dd, h1, h2, h3, h4, fs, h5, h6, h7⟩ := q
      exact ⟨b, oe, dd, h1, h2, h3, h4, fs, by rw [upd_ne (ne_of h5 hA (fun z => by cases z))]; exact h5, h6, h7⟩
    | sh ls ks =>
      obtain ⟨b, xs, h1, h2, K, w⟩ := q
      exact ⟨b, xs, h1, h2, K.mono (.refl _) fun a ka => ⟨(K.own ka).1, upd_ne (nm i a (.inr ⟨ls, ks, b, xs, e, h1, h2, ka⟩))⟩, w⟩
    | al _ _ => trivial
  apart := G.apart
  len := G.len
  als := G.als
theorem Good.stillNot {σ' : St} (G : Good g B F H σ sl) {A : Addr} {o : HO} (h : H A = some o) (n : A ∉ B.A) (nm : ∀ i b, Mine F σ sl i b → b ≠ A) (G' : Good g (reB B F H σ sl) F' H' σ' sl') : ∀ i b, Mine F' σ' sl' i b → b ≠ A := fun i b m e => by
  subst e
  rcases G'.mineOwn m with w | w
  · have : H b = none := w
    rw [h] at this; cases this
  · rcases List.mem_append.mp w with z | z
    · exact n z
    · obtain ⟨j, mj⟩ := mem_ownAs.mp z
      exact nm j b mj rfl
theorem Good.stillF {σ' : St} {A : Addr} {o : HO} (h : H A = some o) (nF : F A = none) (n : A ∉ B.A) (nm : ∀ i b, Mine F σ sl i b → b ≠ A) (G' : Good g (reB B F H σ sl) F' H' σ' sl') : F' A = none := by
  cases q : F' A with
  | none => rfl
  | some u =>
    rcases G'.new A u q nF with z | z
    · have z : H A = none := z
      rw [h] at z; cases z
    · rcases List.mem_append.mp z with z | z
      · exact absurd z n
      · obtain ⟨j, m⟩ := mem_ownAs.mp z
        exact absurd rfl (nm j A m)
theorem wipe2 {vs : List Nat} : L2.wipe (L2.wipe σ vs) vs = L2.wipe σ vs := by
  have tw2 : ∀ (ws : List Nat) (τ : St), (∀ v ∈ ws, τ[v]? = some none ∨ τ.length ≤ v) → L2.wipe τ ws = τ := by
    intro ws
    induction ws with
    | nil => intro τ _; rfl
    | cons w ws ih =>
      intro τ h
      unfold L2.wipe
      rw [ih τ fun v hv => h v (List.mem_cons_of_mem _ hv)]
      rcases h w List.mem_cons_self with h1 | h1
      · obtain ⟨hw, _⟩ := List.getElem?_eq_some_iff.mp h1
        exact List.ext_getElem? fun j => by
          by_cases e : w = j
          · subst e; rw [List.getElem?_set_self hw, h1]
          · rw [List.getElem?_set_ne e]
      · rw [List.set_eq_of_length_le h1]
  refine tw2 vs _ fun v hv => ?_
  by_cases hl : v < (L2.wipe σ vs).length
  · left
    cases e : (L2.wipe σ vs)[v]? with
    | none => rw [List.getElem?_eq_none_iff] at e; omega
    | some o =>
      cases o with
      | none => rfl
      | some u => exact absurd hv (wipe_some e).2
  · exact .inr (by omega)
theorem emps_lt {vs : List Nat} (hvs : emps vs sl = true) : ∀ v ∈ vs, v < sl.length := fun v hv => by
  unfold emps at hvs
  rw [List.all_eq_true] at hvs
  have := hvs v hv
  cases e : sl[v]? with
  | none => rw [e] at this; cases this
  | some s => exact (List.getElem?_eq_some_iff.mp e).1
theorem len_of {vs : List Nat} {σ2 : St} {s : List Slot} (G : Good g B F H σ2 s) (G0 : Good g B F' H' (L2.wipe σ vs) sl) (ew : L2.wipe σ2 vs = L2.wipe σ vs) : s.length = sl.length := by
  rw [← G.len, ← G0.len, ← ew, wipe_length]
/-- the state of a comprehension's loop: A is the new list -/
structure LcIn (g : G0) (B : Base) (F1 : Hp) (σ : St) (vs : List Nat) (A : Addr) (ok : List Slot → Bool) (F H : Hp) (s : List Slot) (xs : List V) (acc : List D) : Prop where
  good : Good g B F H (L2.wipe σ vs) s
  le : Le F1 F
  ok : ok s = true
  at_ : H A = some (.lst xs)
  nF : F A = none
  n0 : B.H0 A = none
  nA : A ∉ B.A
  nm : ∀ i b, Mine F (L2.wipe σ vs) s i b → b ≠ A
  rep : Reps g F xs acc
  emp : ∀ v ∈ vs, v < s.length
/-- a turn's end -/
theorem LcIn.turn {F1 : Hp} {vs : List Nat} {A : Addr} {ok : List Slot → Bool} {s s3 : List Slot} {xs : List V} {acc : List D} {σ2 : St} (I : LcIn g B F1 σ vs A ok F H s xs acc) (G3 : Good g (reB B F H (L2.wipe σ vs) s) F' H' σ2 s3) (ew : L2.wipe σ2 vs = L2.wipe σ vs) (hok : ok (wipeS vs s3) = true) :
    LcIn g B F1 σ vs A ok F' H' (wipeS vs s3) xs acc := by
  have l3 : s3.length = s.length := by
    rw [← G3.len, ← I.good.len, ← ew, wipe_length]
  have U := I.good.unbase G3
  have hl : ∀ v ∈ vs, v < s3.length := fun v hv => by rw [l3]; exact I.emp v hv
  have Uw := U.wipe hl
  rw [ew] at Uw
  have nm3 := I.good.stillNot I.at_ I.nA I.nm G3
  refine ⟨Uw, I.le.trans G3.ext, hok, I.good.kept G3 I.at_ I.nA I.nm, Good.stillF I.at_ I.nF I.nA I.nm G3, I.n0, I.nA, fun i b m => ?_, I.rep.mono G3.ext, fun v hv => by rw [wipeS_len]; exact hl v hv⟩
  -- what is one's own behind the wipe was so ahead of it
  rw [← ew] at m
  exact nm3 i b (mine_wipe vs s3 σ2 m)
theorem LcIn.app {F1 : Hp} {vs : List Nat} {A : Addr} {ok : List Slot → Bool} {s : List Slot} {xs : List V} {acc : List D} {v : V} {y : D} (I : LcIn g B F1 σ vs A ok F H s xs acc) (r : Rep g F v y) : LcIn g B F1 σ vs A ok F (upd H A (.lst (xs ++ [v]))) s (xs ++ [v]) (acc ++ [y]) :=
  ⟨I.good.updOther I.at_ I.nF I.n0 I.nm, I.le, I.ok, upd_same, I.nF, I.n0, I.nA, I.nm, I.rep.append (.one r), I.emp⟩
theorem LcIn.new {F1 : Hp} {vs : List Nat} {ok : List Slot → Bool} (G : Good g B F1 H σ sl) (hok : ok sl = true) (hvs : emps vs sl = true) {A : Addr} (nA : H A = none) : LcIn g B F1 σ vs A ok F1 (upd H A (.lst [])) sl [] [] := by
  have Gw : Good g B F1 H (L2.wipe σ vs) sl := by
    have z := G.wipe (emps_lt hvs)
    rwa [wipeS_emp hvs] at z
  exact ⟨Gw.ext' (Ext.laid Gw.sub nA), .refl _, hok, upd_same, le_none Gw.sub nA, Gw.freshH0 nA, fun z => (by
    obtain ⟨o, ho⟩ := Gw.live A z
    rw [nA] at ho
    cases ho), Gw.mineNe nA, .nil, emps_lt hvs⟩
theorem LcIn.done {F1 : Hp} {vs : List Nat} {A : Addr} {ok : List Slot → Bool} {s : List Slot} {xs : List V} {acc : List D} (I : LcIn g B F1 σ vs A ok F H s xs acc) (he : emps vs s = true) : Good g B F H σ s ∧ AVOk g B F H σ s (.ref A) (.n (.lst acc)) := by
  have G := I.good.unwipe he
  refine ⟨G, A, rfl, I.nF, I.n0, fun i b m => ?_, .lst I.at_ I.rep⟩
  refine I.nm i b ?_
  have ni : ∀ {t : Slot}, s[i]? = some t → t ≠ .emp → i ∉ vs := fun {t} h1 h2 z => by
    unfold emps at he
    rw [List.all_eq_true] at he
    have := he i z
    rw [h1] at this
    cases t <;> first | exact nomatch (show false = true from this) | exact h2 rfl
  rcases m with ⟨⟨t, d, h1, h2⟩, h3⟩ | ⟨ls, ks, q, ys, h1, h3, h4⟩
  · exact .inl ⟨⟨t, d, h1, h2⟩, by rw [wipe_out (ni h1 fun z => by subst z; cases h2)]; exact h3⟩
  · exact .inr ⟨ls, ks, q, ys, h1, by rw [wipe_out (ni h1 fun z => by cases z)]; exact h3, h4⟩

/-- the loop's core: A is the new list; what is made so far, from I on -/
theorem lc_loop {J : It} {t : TG} {b : BM} {tm : TM} {m : EM} {vs : List Nat} (hb : BOk g t b) (tw : TWipe t vs) {F1 F2 H2 : Hp} {ds : List D} {lk : Option Nat} {ok : List Slot → Bool} (hok : ∀ s, ok s = true → lkOk lk ds s = true) (ex : B.ex = none) {A : Addr} {s2 : List Slot} {xs2 : List V} {acc2 : List D} (I2 : LcIn g B F1 σ vs A ok F2 H2 s2 xs2 acc2)
    (wk : ∀ B' : Base, B'.lk = B.lk → Walk g B' J F2 ds lk) {Kp : List D → List Slot → Prop} {R : Hp → Prop} (p : match lcL ok vs b tm m ds acc2 s2 with | some (acc, s) => Kp acc s | none => False) (fin : ∀ F H s xs acc, LcIn g B F1 σ vs A ok F H s xs acc → Le F2 F → Kp acc s → R H) :
    ∃ Wf : Nat → Nat → Hp → Prop, (∃ n, Wf 0 n H2) ∧ ∀ i n H, Wf i n H →
      (J.stop i H ∧ R H) ∨ (J.go i H ∧ ∃ Nx : Hp → Prop, (∀ H', Nx H' → ∃ m', m' < n ∧ Wf (i + 1) m' H') ∧ ∀ x H', J.yld i H x H' → t x (L2.wipe σ vs) H' fun σ2 H2 => L2.wipe σ2 vs = L2.wipe σ vs ∧ tTX g tm σ2 H2 fun b H3 =>
        if b = true then tEX g m σ2 H3 fun y H4 => ∃ acc, H4 A = some (.lst acc) ∧ acc.length < sizeLine ∧ Nx (upd H4 A (.lst (acc ++ [y]))) else Nx H3) := by
  refine ⟨fun i n H => n = ds.length - i ∧ i ≤ ds.length ∧ ∃ F s xs acc, LcIn g B F1 σ vs A ok F H s xs acc ∧ Le F2 F ∧
    (match lcL ok vs b tm m (ds.drop i) acc s with
      | some (acc, s) => Kp acc s
      | none => False), ⟨_, rfl, Nat.zero_le _, F2, s2, xs2, acc2, I2, .refl _, by rw [List.drop_zero]; exact p⟩, ?_⟩
  rintro i n H ⟨rfl, hi, F, s0, xs, acc, I, l2, q⟩
  by_cases hlt' : i < ds.length
  · right
    have ed : ds.drop i = ds[i] :: ds.drop (i + 1) := List.drop_eq_getElem_cons hlt'
    rw [ed] at q
    unfold lcL at q
    obtain ⟨go, yl⟩ := (wk (reB B F H (L2.wipe σ vs) s0) rfl i F H _ s0 I.good.rebase l2 (hok _ I.ok)).1 ds[i] (by simp [hlt'])
    cases eb : b ds[i] s0 with
    | none => rw [eb] at q; exact q.elim
    | some s1 =>
      rw [eb] at q
      dsimp only at q
      refine ⟨go, fun H => i + 1 ≤ ds.length ∧ ∃ F s xs acc, LcIn g B F1 σ vs A ok F H s xs acc ∧ Le F2 F ∧
        (match lcL ok vs b tm m (ds.drop (i + 1)) acc s with
          | some (acc, s) => Kp acc s
          | none => False), fun H' q' => ⟨_, by omega, rfl, q'⟩, fun x H' y => ?_⟩
      obtain ⟨F', x', r⟩ := yl x H' y
      refine tw x _ H' _ (hb _ F' H' _ s0 s1 x _ _ (I.good.rebase.ext' x') r eb fun σ2 G2 => ?_)
      intro _ ew
      have ew2 : L2.wipe σ2 vs = L2.wipe σ vs := ew.trans wipe2
      refine ⟨ew2, reB B F H (L2.wipe σ vs) s0, ex, F', s1, G2, ?_⟩
      cases et : tm s1 with
      | bad => rw [et] at q; exact q.elim
      | err c ns es s2 => rw [et] at q; exact q.elim
      | ok k s2 =>
        rw [et] at q
        intro F3 H3 le3 G3
        cases k with
        | false =>
          refine iteF ?_
          dsimp only at q
          by_cases ho : ok (wipeS vs s2) = true
          · rw [if_pos ho] at q
            exact ⟨hlt', F3, _, xs, acc, I.turn G3 ew2 ho, l2.trans G3.ext, q⟩
          · rw [if_neg ho] at q; exact q.elim
        | true =>
          refine iteT ⟨reB B F H (L2.wipe σ vs) s0, ex, F3, s2, G3, ?_⟩
          dsimp only at q
          cases em : m s2 with
          | bad => rw [em] at q; exact q.elim
          | err c ns es s3 => rw [em] at q; exact q.elim
          | ok a s3 =>
            rw [em] at q
            dsimp only at q
            intro v F4 H4 le4 G4 av
            obtain ⟨F5, le5, G5, av'⟩ := av.frz G4
            cases ea : frz a with
            | s j => rw [ea] at q; exact q.elim
            | n d => rw [ea] at q; exact q.elim
            | t _ _ => rw [ea] at q; exact q.elim
            | p _ _ => rw [ea] at q; exact q.elim
            | v y =>
              rw [ea] at q av'
              dsimp only at q
              by_cases ho : (ok (wipeS vs s3) && decide (acc.length ≤ most)) = true
              · rw [if_pos ho] at q
                rw [Bool.and_eq_true] at ho
                have I' := I.turn G5 ew2 ho.1
                have hx : xs.length = acc.length := I.rep.length
                exact ⟨xs, I'.at_, by rw [hx]; exact most_lt (of_decide_eq_true ho.2), hlt', F5, _, _, _, I'.app av', l2.trans G5.ext, q⟩
              · rw [if_neg ho] at q; exact q.elim
  · have e : i = ds.length := by omega
    subst e
    rw [List.drop_length] at q
    unfold lcL at q
    exact .inl ⟨(wk B rfl _ F H _ s0 I.good l2 (hok _ I.ok)).2 rfl, fin F H s0 xs acc I l2 q⟩
theorem lc_core' {J : It} {t : TG} {b : BM} {tm : TM} {m : EM} {vs : List Nat} (hb : BOk g t b) (tw : TWipe t vs) {F1 H1 : Hp} {ds : List D} {lk : Option Nat} {ok : List Slot → Bool} (hok : ∀ s, ok s = true → lkOk lk ds s = true) (ex : B.ex = none) (G : Good g B F1 H1 σ sl) (wk : ∀ B' : Base, B'.lk = B.lk → Walk g B' J F1 ds lk) (l1 : ok sl = true)
    (p : PostE g B W F1 σ Q (lcRun ok vs b tm m ds sl)) {A : Addr} (nA : H1 A = none) :
    ∃ Wf : Nat → Nat → Hp → Prop, (∃ n, Wf 0 n (upd H1 A (.lst []))) ∧ ∀ i n H, Wf i n H →
      (J.stop i H ∧ Q (.ref A) H) ∨ (J.go i H ∧ ∃ Nx : Hp → Prop, (∀ H', Nx H' → ∃ m', m' < n ∧ Wf (i + 1) m' H') ∧ ∀ x H', J.yld i H x H' → t x (L2.wipe σ vs) H' fun σ2 H2 => L2.wipe σ2 vs = L2.wipe σ vs ∧ tTX g tm σ2 H2 fun b H3 =>
        if b = true then tEX g m σ2 H3 fun y H4 => ∃ acc, H4 A = some (.lst acc) ∧ acc.length < sizeLine ∧ Nx (upd H4 A (.lst (acc ++ [y]))) else Nx H3) := by
  unfold lcRun at p
  by_cases hvs : emps vs sl = true
  case neg => rw [if_neg hvs] at p; exact p.elim
  rw [if_pos hvs] at p
  refine lc_loop hb tw hok ex (LcIn.new G l1 hvs nA) wk (Kp := fun acc s => PostE g B W F1 σ Q (if emps vs s then .ok (.n (.lst acc)) s else .bad)) ?_ fun F H s xs acc I l q => ?_
  · cases e : lcL ok vs b tm m ds [] sl with
    | none => rw [e] at p; exact p
    | some r => obtain ⟨acc, s⟩ := r; rw [e] at p; exact p
  · by_cases he : emps vs s = true
    · rw [if_pos he] at q
      obtain ⟨Gd, av⟩ := I.done he
      exact q _ F H l Gd av
    · rw [if_neg he] at q; exact q.elim
theorem unlE_post {k : Nat} {a : Addr} {r : ER} (p : PostE g B W F σ Q (unlE k r)) : PostE g (lkB B k a) W F σ Q r := by
  have av : ∀ {v : V} {x : AV} {F' H' : Hp} {σ : St} {sl : List Slot} {b : Bool} {d : D}, sl[k]? = some (.lock b d) → AVOk g (lkB B k a) F' H' σ sl v x → AVOk g B F' H' σ (sl.set k (if b then .io d else .own d)) v x := fun {v x F' H' σ sl b d} h h2 => by
    cases x with
    | v _ => exact h2
    | s _ => exact h2
    | p _ _ => exact h2
    | n _ => obtain ⟨q, e, n, n0, nm, c⟩ := h2; exact ⟨q, e, n, n0, fun i b' m => nm i b' (mine_unlk h m), c⟩
    | t _ _ => obtain ⟨q, xs, e, h1, h0, K, w⟩ := h2; exact ⟨q, xs, e, h1, h0, K, fun a ka => ⟨(w a ka).1, fun i b' m => (w a ka).2 i b' (mine_unlk h m)⟩⟩
  have un : ∀ {sl s : List Slot}, unlk k sl = some s → ∃ b d, sl[k]? = some (.lock b d) ∧ s = sl.set k (if b then .io d else .own d) := fun {sl s} e => by
    unfold unlk at e
    cases q : sl[k]? with
    | none => rw [q] at e; cases e
    | some t =>
      rw [q] at e
      cases t with
      | lock b d => cases e; exact ⟨b, d, rfl, rfl⟩
      | _ => cases e
  cases r with
  | bad => exact p
  | ok x sl =>
    cases e : unlk k sl with
    | none => simp only [unlE, e] at p; exact p.elim
    | some s =>
      simp only [unlE, e] at p
      obtain ⟨b, d, h, rfl⟩ := un e
      exact fun v F' H' le G ax => p v F' H' le (G.unlock h) (av h ax)
  | err c ns vs sl =>
    cases e : unlk k sl with
    | none => simp only [unlE, e] at p; exact p.elim
    | some s =>
      simp only [unlE, e] at p
      obtain ⟨b, d, h, rfl⟩ := un e
      exact fun dd F' H' le G x => p dd F' H' le (G.unlock h) x
theorem withLk_imp {im : IM} {run : (List Slot → Bool) → List D → List Slot → ER} {R : It → Hp → Prop} (h : tE g B W (withLk im run) σ H Q)
    (core : ∀ (B' : Base) (J : It) (F1 H1 : Hp) (sl : List Slot) (ds : List D) (lk : Option Nat) (ok : List Slot → Bool), B'.ex = B.ex → (∀ s, ok s = true → lkOk lk ds s = true) → Good g B' F1 H1 σ sl → (∀ B2 : Base, B2.lk = B'.lk → Walk g B2 J F1 ds lk) → ok sl = true → PostE g B' W F1 σ Q (run ok ds sl) → R J H1) :
    ∃ F sl, Good g B F H σ sl ∧ PostI g B W F σ R (im sl) := by
  obtain ⟨F, sl, G, p⟩ := h
  refine ⟨F, sl, G, ?_⟩
  unfold withLk at p
  cases e : im sl with
  | bad => rw [e] at p; exact p
  | err c ns vs sl' => rw [e] at p; exact p
  | ok ds lk sl' =>
    rw [e] at p
    intro J F1 H1 le G1 wk
    cases lk with
    | none => exact core B J F1 H1 sl' ds none (fun _ => true) rfl (fun _ _ => rfl) G1 (fun B' _ => wk B' fun k z => by cases z) rfl (PostE.le p le)
    | some k =>
      dsimp only at p
      cases e1 : sl'[k]? with
      | none => rw [e1] at p; exact p.elim
      | some s =>
        rw [e1] at p
        have fresh : ∀ s', lockS s = some s' → PostE g B W F σ Q (if lkIs k ds (sl'.set k s') then unlE k (run (lkIs k ds) ds (sl'.set k s')) else .bad) → R J H1 := fun s' es p => by
          by_cases hk : lkIs k ds (sl'.set k s') = true
          · rw [if_pos hk] at p
            have md : ∃ d, mineD s = some d := by cases s <;> first | exact ⟨_, rfl⟩ | cases es
            obtain ⟨d, hd⟩ := md
            obtain ⟨a, m, ha, nF, c⟩ := G1.mineAt e1 hd
            exact core (lkB B k a) J F1 H1 _ ds (some k) (lkIs k ds) lkB_ex (fun _ h => h) (G1.lock e1 es ha) (fun B' eB => wk B' fun k' z => by cases z; exact ⟨a, ha, by rw [eB]; exact if_pos rfl⟩) hk (PostE.le (unlE_post p) le)
          · rw [if_neg hk] at p; exact p.elim
        cases s with
        | lock b0 d0 =>
          dsimp only at p
          by_cases hk : lkIs k ds sl' = true
          · rw [if_pos hk] at p
            refine core B J F1 H1 _ ds (some k) (lkIs k ds) rfl (fun _ h => h) G1 (fun B' eB => wk B' fun k' z => ?_) hk (PostE.le p le)
            cases z
            obtain ⟨a, e2, n, w, c⟩ := G1.slot k _ e1
            exact ⟨a, e2, by rw [eB]; exact w.2⟩
          · rw [if_neg hk] at p; exact p.elim
        | own d => exact fresh (.lock false d) rfl p
        | io d => exact fresh (.lock true d) rfl p
        | _ => exact p.elim
theorem lc_imp (ex : B.ex = none) {im : IM} {wi : TI} {t : TG} {b : BM} {tm : TM} {m : EM} {vs : List Nat} (hi : ∀ σ H R, (∃ F sl, Good g B F H σ sl ∧ PostI g B W F σ R (im sl)) → wi σ H R) (hb : BOk g t b) (tw : TWipe t vs) (h : tE g B W (eLc im vs b tm m) σ H Q) : tLc wi t (tTX g tm) (tEX g m) vs σ H Q :=
  hi σ H _ (withLk_imp h fun B' J F1 H1 sl ds lk ok eB hok G wk l1 p A nA => lc_core' hb tw hok (eB.trans ex) G wk l1 p nA)
/-! two clauses -/
/-- the outer turns: the inner list is made in the block, then walked -/
def lcL2 (ok : List Slot → Bool) (vs vs1 : List Nat) (b : BM) (t : TM) (im1 : IM) (b1 : BM) (t1 : TM) (m : EM) : List D → List D → List Slot → Option (List D × List Slot)
  | [], acc, sl => some (acc, sl)
  | d :: ds, acc, sl => match b d sl with
    | none => none
    | some s1 => (match t s1 with
      | .ok true s2 => (match im1 s2 with
        | .ok es none s3 => if emps vs1 s3 then (match lcL (fun _ => true) vs1 b1 t1 m es acc s3 with
          | some (acc', s4) => if ok (wipeS vs s4) then lcL2 ok vs vs1 b t im1 b1 t1 m ds acc' (wipeS vs s4) else none
          | none => none) else none
        | _ => none)
      | .ok false s2 => if ok (wipeS vs s2) then lcL2 ok vs vs1 b t im1 b1 t1 m ds acc (wipeS vs s2) else none
      | _ => none)
def lcRun2 (ok : List Slot → Bool) (vs vs1 : List Nat) (b : BM) (t : TM) (im1 : IM) (b1 : BM) (t1 : TM) (m : EM) (ds : List D) (sl : List Slot) : ER :=
  if emps vs sl then (match lcL2 ok vs vs1 b t im1 b1 t1 m ds [] sl with
    | some (acc, s) => if emps vs s then .ok (.n (.lst acc)) s else .bad
    | none => .bad) else .bad
def eLc2 (im : IM) (vs vs1 : List Nat) (b : BM) (t : TM) (im1 : IM) (b1 : BM) (t1 : TM) (m : EM) : EM := withLk im fun ok ds sl => lcRun2 ok vs vs1 b t im1 b1 t1 m ds sl
abbrev tIX (g : G0) (im : IM) : TI := fun σ H R => ∃ B, B.ex = none ∧ ∃ F sl, Good g B F H σ sl ∧ PostI g B W0 F σ R (im sl)
theorem SI.any {im : IM} {tg e : Expr} (h : SI cA X im tg e) : PI X tg e (tIX (gx X cA) im) := ⟨fun p s σ H R I ⟨B, n, w⟩ => by
  obtain ⟨wi, pi, hw⟩ := h.run B W0 ⟨fun q z => (by rw [n] at z; cases z), takes0⟩
  exact pi.run p s σ H R I (hw σ H R w)⟩
theorem wipe_sub {vs vs1 : List Nat} (h : ∀ v ∈ vs1, v ∈ vs) : L2.wipe (L2.wipe σ vs1) vs = L2.wipe σ vs := by
  refine List.ext_getElem? fun i => ?_
  by_cases hi : i ∈ vs
  · have none_at : ∀ (τ : St), (L2.wipe τ vs)[i]? = if i < τ.length then some none else none := fun τ => by
      by_cases hl : i < τ.length
      · rw [if_pos hl]
        cases e : (L2.wipe τ vs)[i]? with
        | none => rw [List.getElem?_eq_none_iff, wipe_length] at e; omega
        | some o =>
          cases o with
          | none => rfl
          | some u => exact absurd hi (wipe_some e).2
      · rw [if_neg hl, List.getElem?_eq_none_iff, wipe_length]; omega
    rw [none_at, none_at, wipe_length]
  · rw [wipe_out hi, wipe_out hi, wipe_out (fun z => hi (h i z))]
/-- into the inner loop, out of it -/
theorem LcIn.into {F1 : Hp} {vs vs1 : List Nat} {A : Addr} {ok : List Slot → Bool} {s s3 : List Slot} {xs : List V} {acc : List D} {σ2 : St} (I : LcIn g B F1 σ vs A ok F H s xs acc) (G3 : Good g (reB B F H (L2.wipe σ vs) s) F' H' σ2 s3) (he : emps vs1 s3 = true) :
    LcIn g B F1 σ2 vs1 A (fun _ => true) F' H' s3 xs acc := by
  have U := I.good.unbase G3
  have Uw := U.wipe (emps_lt he)
  rw [wipeS_emp he] at Uw
  have nm3 := I.good.stillNot I.at_ I.nA I.nm G3
  refine ⟨Uw, I.le.trans G3.ext, rfl, I.good.kept G3 I.at_ I.nA I.nm, Good.stillF I.at_ I.nF I.nA I.nm G3, I.n0, I.nA, fun i b m => nm3 i b (m.imp (fun m => ⟨m.1, (wipe_some m.2).1⟩) fun ⟨ls, ks, q, ys, h1, h2, h3⟩ => ⟨ls, ks, q, ys, h1, (wipe_some h2).1, h3⟩), I.rep.mono G3.ext, emps_lt he⟩
theorem LcIn.out {F1 : Hp} {vs vs1 : List Nat} {A : Addr} {ok : List Slot → Bool} {s4 : List Slot} {xs : List V} {acc : List D} {σ2 : St} (I : LcIn g B F1 σ2 vs1 A (fun _ => true) F H s4 xs acc) (hs : ∀ v ∈ vs1, v ∈ vs) (hl : ∀ v ∈ vs, v < s4.length) (ew : L2.wipe σ2 vs = L2.wipe σ vs) (ho : ok (wipeS vs s4) = true) :
    LcIn g B F1 σ vs A ok F H (wipeS vs s4) xs acc := by
  have Gw := I.good.wipe hl
  rw [wipe_sub hs, ew] at Gw
  refine ⟨Gw, I.le, ho, I.at_, I.nF, I.n0, I.nA, fun i b m => ?_, I.rep, fun v hv => by rw [wipeS_len]; exact hl v hv⟩
  rw [← ew, ← wipe_sub hs] at m
  exact I.nm i b (mine_wipe vs s4 (L2.wipe σ2 vs1) m)
theorem lc2_core' {J : It} {t t1 : TG} {b b1 : BM} {tm tm1 : TM} {m : EM} {im1 : IM} {vs vs1 : List Nat} (hb : BOk g t b) (tw : TWipe t vs) (hb1 : BOk g t1 b1) (tw1 : TWipe t1 vs1) (hsub : ∀ v ∈ vs1, v ∈ vs) {F1 H1 : Hp} {ds : List D} {lk : Option Nat} {ok : List Slot → Bool} (hok : ∀ s, ok s = true → lkOk lk ds s = true) (ex : B.ex = none) (G : Good g B F1 H1 σ sl) (wk : ∀ B' : Base, B'.lk = B.lk → Walk g B' J F1 ds lk) (l1 : ok sl = true)
    (p : PostE g B W F1 σ Q (lcRun2 ok vs vs1 b tm im1 b1 tm1 m ds sl)) {A : Addr} (nA : H1 A = none) :
    ∃ Wf : Nat → Nat → Hp → Prop, (∃ n, Wf 0 n (upd H1 A (.lst []))) ∧ ∀ i n H, Wf i n H →
      (J.stop i H ∧ Q (.ref A) H) ∨ (J.go i H ∧ ∃ Nx : Hp → Prop, (∀ H', Nx H' → ∃ m', m' < n ∧ Wf (i + 1) m' H') ∧ ∀ x H', J.yld i H x H' → t x (L2.wipe σ vs) H' fun σ2 H2 => L2.wipe σ2 vs = L2.wipe σ vs ∧ tTX g tm σ2 H2 fun b H3 =>
        if b = true then tIX g im1 σ2 H3 fun J1 H4 => ∃ W1 : Nat → Nat → Hp → Prop, (∃ m, W1 0 m H4) ∧ ∀ j k H, W1 j k H →
          (J1.stop j H ∧ Nx H) ∨ (J1.go j H ∧ ∃ Nx1 : Hp → Prop, (∀ H', Nx1 H' → ∃ k', k' < k ∧ W1 (j + 1) k' H') ∧ ∀ x H', J1.yld j H x H' → t1 x (L2.wipe σ2 vs1) H' fun σ3 H5 => L2.wipe σ3 vs1 = L2.wipe σ2 vs1 ∧ tTX g tm1 σ3 H5 fun b H6 =>
            if b = true then tEX g m σ3 H6 fun y H7 => ∃ acc, H7 A = some (.lst acc) ∧ acc.length < sizeLine ∧ Nx1 (upd H7 A (.lst (acc ++ [y]))) else Nx1 H6)
        else Nx H3) := by
  unfold lcRun2 at p
  by_cases hvs : emps vs sl = true
  case neg => rw [if_neg hvs] at p; exact p.elim
  rw [if_pos hvs] at p
  refine ⟨fun i n H => n = ds.length - i ∧ i ≤ ds.length ∧ ∃ F s xs acc, LcIn g B F1 σ vs A ok F H s xs acc ∧
    (match lcL2 ok vs vs1 b tm im1 b1 tm1 m (ds.drop i) acc s with
      | some (acc, s) => PostE g B W F1 σ Q (if emps vs s then .ok (.n (.lst acc)) s else .bad)
      | none => False), ⟨_, rfl, Nat.zero_le _, F1, sl, [], [], LcIn.new G l1 hvs nA, ?_⟩, ?_⟩
  · rw [List.drop_zero]
    cases e : lcL2 ok vs vs1 b tm im1 b1 tm1 m ds [] sl with
    | none => rw [e] at p; exact p
    | some r => obtain ⟨acc, s⟩ := r; rw [e] at p; exact p
  rintro i n H ⟨rfl, hi, F, s0, xs, acc, I, q⟩
  by_cases hlt' : i < ds.length
  · right
    have ed : ds.drop i = ds[i] :: ds.drop (i + 1) := List.drop_eq_getElem_cons hlt'
    rw [ed] at q
    unfold lcL2 at q
    obtain ⟨go, yl⟩ := (wk (reB B F H (L2.wipe σ vs) s0) rfl i F H _ s0 I.good.rebase I.le (hok _ I.ok)).1 ds[i] (by simp [hlt'])
    cases eb : b ds[i] s0 with
    | none => rw [eb] at q; exact q.elim
    | some s1 =>
      rw [eb] at q
      dsimp only at q
      refine ⟨go, fun H => i + 1 ≤ ds.length ∧ ∃ F s xs acc, LcIn g B F1 σ vs A ok F H s xs acc ∧
        (match lcL2 ok vs vs1 b tm im1 b1 tm1 m (ds.drop (i + 1)) acc s with
          | some (acc, s) => PostE g B W F1 σ Q (if emps vs s then .ok (.n (.lst acc)) s else .bad)
          | none => False), fun H' q' => ⟨_, by omega, rfl, q'⟩, fun x H' y => ?_⟩
      obtain ⟨F', x', r⟩ := yl x H' y
      refine tw x _ H' _ (hb _ F' H' _ s0 s1 x _ _ (I.good.rebase.ext' x') r eb fun σ2 G2 => ?_)
      intro _ ew
      have ew2 : L2.wipe σ2 vs = L2.wipe σ vs := ew.trans wipe2
      refine ⟨ew2, reB B F H (L2.wipe σ vs) s0, ex, F', s1, G2, ?_⟩
      cases et : tm s1 with
      | bad => rw [et] at q; exact q.elim
      | err c ns es s2 => rw [et] at q; exact q.elim
      | ok k s2 =>
        rw [et] at q
        intro F3 H3 le3 G3
        cases k with
        | false =>
          refine iteF ?_
          dsimp only at q
          by_cases ho : ok (wipeS vs s2) = true
          · rw [if_pos ho] at q
            exact ⟨hlt', F3, _, xs, acc, I.turn G3 ew2 ho, q⟩
          · rw [if_neg ho] at q; exact q.elim
        | true =>
          refine iteT ⟨reB B F H (L2.wipe σ vs) s0, ex, F3, s2, G3, ?_⟩
          dsimp only at q
          cases ei : im1 s2 with
          | bad => rw [ei] at q; exact q.elim
          | err c ns es s3 => rw [ei] at q; exact q.elim
          | ok es lk1 s3 =>
            rw [ei] at q
            intro J1 F4 H4 le4 G4 wk1
            cases lk1 with
            | some k => exact q.elim
            | none =>
              dsimp only at q
              by_cases he : emps vs1 s3 = true
              case neg => rw [if_neg he] at q; exact q.elim
              rw [if_pos he] at q
              have I4 := I.into G4 he
              have l4 : s3.length = s0.length := by
                rw [← G4.len, ← I.good.len, ← ew2, wipe_length]
              refine lc_loop hb1 tw1 (fun _ _ => rfl) ex I4 (fun B' _ => wk1 B' fun k z => by cases z) (Kp := fun acc' s4 => match (if ok (wipeS vs s4) then lcL2 ok vs vs1 b tm im1 b1 tm1 m (ds.drop (i + 1)) acc' (wipeS vs s4) else none) with
                | some (acc, s) => PostE g B W F1 σ Q (if emps vs s then .ok (.n (.lst acc)) s else .bad)
                | none => False) ?_ fun F5 H5 s4 xs' acc' I5 l5 q5 => ?_
              · cases e : lcL (fun _ => true) vs1 b1 tm1 m es acc s3 with
                | none => rw [e] at q; exact q
                | some r => obtain ⟨acc', s4⟩ := r; rw [e] at q; exact q
              · by_cases ho : ok (wipeS vs s4) = true
                · rw [if_pos ho] at q5
                  have l5' : s4.length = s0.length := by
                    rw [← l4, ← I4.good.len, ← I5.good.len]
                  exact ⟨hlt', F5, _, xs', acc', I5.out hsub (fun v hv => by rw [l5']; exact I.emp v hv) ew2 ho, q5⟩
                · rw [if_neg ho] at q5; exact q5.elim
  · have e : i = ds.length := by omega
    subst e
    rw [List.drop_length] at q
    unfold lcL2 at q
    dsimp only at q
    by_cases he : emps vs s0 = true
    · rw [if_pos he] at q
      obtain ⟨Gd, av⟩ := I.done he
      exact .inl ⟨(wk B rfl _ F H _ s0 I.good I.le (hok _ I.ok)).2 rfl, q _ F H I.le Gd av⟩
    · rw [if_neg he] at q; exact q.elim
theorem lc2_imp (ex : B.ex = none) {im im1 : IM} {wi : TI} {t t1 : TG} {b b1 : BM} {tm tm1 : TM} {m : EM} {vs vs1 : List Nat} (hi : ∀ σ H R, (∃ F sl, Good g B F H σ sl ∧ PostI g B W F σ R (im sl)) → wi σ H R) (hb : BOk g t b) (tw : TWipe t vs) (hb1 : BOk g t1 b1) (tw1 : TWipe t1 vs1) (hsub : ∀ v ∈ vs1, v ∈ vs)
    (h : tE g B W (eLc2 im vs vs1 b tm im1 b1 tm1 m) σ H Q) : tLc2 wi t (tTX g tm) (tIX g im1) t1 (tTX g tm1) (tEX g m) vs vs1 σ H Q :=
  hi σ H _ (withLk_imp h fun B' J F1 H1 sl ds lk ok eB hok G wk l1 p A nA => lc2_core' hb tw hb1 tw1 hsub hok (eB.trans ex) G wk l1 p nA)
/-- [e for x in xs if t for y in ys if u] -/
theorem se_lc2 {im im1 : IM} {t t1 : TG} {b b1 : BM} {tm tm1 : TM} {m : EM} {own : List (Str × Nat)} {vs1 : List Nat} {E tg iter : Expr} (hc : X.calm = true) (hi : SI cA X im tg iter) (hb : BOk (gx X cA) t b) (tw : TWipe t (own.map (·.2))) (hb1 : BOk (gx X cA) t1 b1) (tw1 : TWipe t1 vs1) (hsub : ∀ v ∈ vs1, v ∈ own.map (·.2))
    (pe : ∀ (wi : TI), PI X tg iter wi → PE X E (tLc2 wi t (tTX (gx X cA) tm) (tIX (gx X cA) im1) t1 (tTX (gx X cA) tm1) (tEX (gx X cA) m) (own.map (·.2)) vs1)) : SE cA X (eLc2 im (own.map (·.2)) vs1 b tm im1 b1 tm1 m) E := by
  refine ⟨fun B W tk => ?_⟩
  obtain ⟨wi, pi, hw⟩ := hi.run B W tk
  exact (pe wi pi).of fun _ _ _ h => lc2_imp (tk.noEx hc) hw hb tw hb1 tw1 hsub h
theorem yes_any {e : List Expr} (h : PTs X e tYes) : PTs X e (tTX (gx X cA) tYesM) := ⟨fun p s σ H Q I ⟨B, _, F, sl, G, w⟩ => h.run p s σ H Q I (w F H (.refl _) G)⟩
/-- [e for x in xs if t] -/
theorem se_lc {im : IM} {t : TG} {b : BM} {tm : TM} {m : EM} {own : List (Str × Nat)} {elt tg iter : Expr} {ifs : List Expr} {scope : Scope} {pos : Pos} (hc : X.calm = true) (hi : SI cA X im tg iter) (hb : BOk (gx X cA) t b) (tw : TWipe t (own.map (·.2)))
    (pe : ∀ (wi : TI) (tt : TT) (te : TE), PI X tg iter wi → (∀ (s : Shared) (H : Hp) (C : Addr) (cl : List (Str × Addr)) (fp : List Addr), PTs (X.blk s H scope (compEnvC scope cl C X.env) fp) ifs tt) → (∀ (s : Shared) (H : Hp) (C : Addr) (cl : List (Str × Addr)) (fp : List Addr), PE (X.blk s H scope (compEnvC scope cl C X.env) fp) elt te) → PE X (.ListComp elt [⟨tg, iter, ifs, 0⟩] scope pos) (tLc wi t tt te (own.map (·.2))))
    (ht : ∀ (s : Shared) (H : Hp) (C : Addr) (cl : List (Str × Addr)) (fp : List Addr), PTs (X.blk s H scope (compEnvC scope cl C X.env) fp) ifs (tTX (gx X cA) tm))
    (he : ∀ (s : Shared) (H : Hp) (C : Addr) (cl : List (Str × Addr)) (fp : List Addr), SE cA (X.blk s H scope (compEnvC scope cl C X.env) fp) m elt) :
    SE cA X (eLc im (own.map (·.2)) b tm m) (.ListComp elt [⟨tg, iter, ifs, 0⟩] scope pos) := by
  refine ⟨fun B W tk => ?_⟩
  obtain ⟨wi, pi, hw⟩ := hi.run B W tk
  exact (pe wi (tTX (gx X cA) tm) (tEX (gx X cA) m) pi ht fun s H C cl fp => (he s H C cl fp).any).of fun _ _ _ h => lc_imp (tk.noEx hc) hw hb tw h
/-- name = [..] -/
theorem ss_lc {i : Nat} {put : AV → List Slot → SR} (po : PutOk (gx X cA) put i) {im : IM} {t : TG} {b : BM} {tm : TM} {m : EM} {own : List (Str × Nat)} {elt tg iter : Expr} {ifs : List Expr} {scope : Scope} {y : Str} {py pos spos : Pos} (hc : X.calm = true) (hi : SI cA X im tg iter) (hb : BOk (gx X cA) t b) (tw : TWipe t (own.map (·.2)))
    (ps : ∀ (wi : TI) (tt : TT) (te : TE), PI X tg iter wi → (∀ (s : Shared) (H : Hp) (C : Addr) (cl : List (Str × Addr)) (fp : List Addr), PTs (X.blk s H scope (compEnvC scope cl C X.env) fp) ifs tt) → (∀ (s : Shared) (H : Hp) (C : Addr) (cl : List (Str × Addr)) (fp : List Addr), PE (X.blk s H scope (compEnvC scope cl C X.env) fp) elt te) → PS X (.Assign [.Name y py] (.ListComp elt [⟨tg, iter, ifs, 0⟩] scope pos) spos) (tAsg (tLc wi t tt te (own.map (·.2))) (gName i)))
    (ht : ∀ (s : Shared) (H : Hp) (C : Addr) (cl : List (Str × Addr)) (fp : List Addr), PTs (X.blk s H scope (compEnvC scope cl C X.env) fp) ifs (tTX (gx X cA) tm))
    (he : ∀ (s : Shared) (H : Hp) (C : Addr) (cl : List (Str × Addr)) (fp : List Addr), SE cA (X.blk s H scope (compEnvC scope cl C X.env) fp) m elt) :
    SS cA X (sStore put (eLc im (own.map (·.2)) b tm m)) (.Assign [.Name y py] (.ListComp elt [⟨tg, iter, ifs, 0⟩] scope pos) spos) := by
  refine ⟨fun B W tk => ?_⟩
  obtain ⟨wi, pi, hw⟩ := hi.run B W tk
  refine (ps wi (tTX (gx X cA) tm) (tEX (gx X cA) m) pi ht fun s H C cl fp => (he s H C cl fp).any).of fun D σ H h => ?_
  have h2 : tAsg (tE (gx X cA) B W (eLc im (own.map (·.2)) b tm m)) (gName i) D σ H := store_imp po h
  exact lc_imp (tk.noEx hc) hw hb tw h2
end comp
end Za
end
section
set_option Elab.async false
set_option linter.all false
set_option maxRecDepth 100000
set_option maxHeartbeats 2000000
namespace Za
open PySem PySem.Spec PyProof.Rows L2

/-! ### data: ==, in -/
mutual
def toP : D → PyData
  | .non => .none
  | .bl b => .bool b
  | .int i => .int i
  | .str x => .str x
  | .lst xs => .list (toPs xs)
  | .tup xs => .tuple (toPs xs)
  | _ => .none
def toPs : List D → List PyData
  | [] => []
  | d :: ds => toP d :: toPs ds
end
mutual
/-- nested at most n deep, no dict, no object -/
def flat : Nat → D → Bool
  | _, .non | _, .bl _ | _, .int _ | _, .str _ => true
  | n + 1, .lst xs => flats n xs
  | n + 1, .tup xs => flats n xs
  | _, _ => false
def flats : Nat → List D → Bool
  | _, [] => true
  | n, d :: ds => flat n d && flats n ds
end
mutual
def eqv : D → D → Bool
  | .non, .non => true
  | .bl a, .bl b => a == b
  | .bl a, .int j => (if a then 1 else 0) == j
  | .int i, .bl b => i == (if b then 1 else 0)
  | .int i, .int j => i == j
  | .str x, .str y => x == y
  | .lst xs, .lst ys => eqvs xs ys
  | .tup xs, .tup ys => eqvs xs ys
  | _, _ => false
def eqvs : List D → List D → Bool
  | [], [] => true
  | x :: xs, y :: ys => eqv x y && eqvs xs ys
  | _, _ => false
end
mutual
theorem flat_eqv : ∀ (n m : Nat) (d e : D), flat n d = true → flat m e = true → PyData.eqv (toP d) (toP e) = eqv d e
  | n, m, .non, e, _, h => by cases e <;> first | (cases m <;> simp [flat] at h; done) | simp only [toP, PyData.eqv, eqv]
  | n, m, .bl a, e, _, h => by cases e <;> first | (cases m <;> simp [flat] at h; done) | simp only [toP, PyData.eqv, eqv]
  | n, m, .int a, e, _, h => by cases e <;> first | (cases m <;> simp [flat] at h; done) | simp only [toP, PyData.eqv, eqv]
  | n, m, .str a, e, _, h => by cases e <;> first | (cases m <;> simp [flat] at h; done) | simp only [toP, PyData.eqv, eqv]
  | 0, _, .lst _, _, h, _ => by simp [flat] at h
  | 0, _, .tup _, _, h, _ => by simp [flat] at h
  | n + 1, m, .lst xs, e, h1, h => by
    cases e with
    | lst ys =>
      cases m with
      | zero => simp [flat] at h
      | succ m =>
        simp only [toP, PyData.eqv, eqv]
        exact flats_eqv n m xs ys (by simpa [flat] using h1) (by simpa [flat] using h)
    | _ => first | (cases m <;> simp [flat] at h; done) | simp only [toP, PyData.eqv, eqv]
  | n + 1, m, .tup xs, e, h1, h => by
    cases e with
    | tup ys =>
      cases m with
      | zero => simp [flat] at h
      | succ m =>
        simp only [toP, PyData.eqv, eqv]
        exact flats_eqv n m xs ys (by simpa [flat] using h1) (by simpa [flat] using h)
    | _ => first | (cases m <;> simp [flat] at h; done) | simp only [toP, PyData.eqv, eqv]
  | n, _, .kst _, _, h, _ => by cases n <;> simp [flat] at h
  | n, _, .dct _ _, _, h, _ => by cases n <;> simp [flat] at h
  | n, _, .obj _ _ _, _, h, _ => by cases n <;> simp [flat] at h
theorem flats_eqv : ∀ (n m : Nat) (d e : List D), flats n d = true → flats m e = true → PyData.eqvAll (toPs d) (toPs e) = eqvs d e
  | _, _, [], [], _, _ => by simp only [toPs, PyData.eqvAll, eqvs]
  | _, _, [], _ :: _, _, _ => by simp only [toPs, PyData.eqvAll, eqvs]
  | _, _, _ :: _, [], _, _ => by simp only [toPs, PyData.eqvAll, eqvs]
  | n, m, x :: xs, y :: ys, h1, h2 => by
    simp only [flats, Bool.and_eq_true] at h1 h2
    simp only [toPs, PyData.eqvAll, eqvs, flat_eqv n m x y h1.1 h2.1, flats_eqv n m xs ys h1.2 h2.2]
end
mutual
theorem flat_plain : ∀ (n : Nat) (d : D), flat n d = true → (toP d).plain = true ∧ (toP d).depth ≤ n
  | n, .non, _ => ⟨rfl, Nat.zero_le _⟩
  | n, .bl _, _ => ⟨rfl, Nat.zero_le _⟩
  | n, .int _, _ => ⟨rfl, Nat.zero_le _⟩
  | n, .str _, _ => ⟨rfl, Nat.zero_le _⟩
  | 0, .lst _, h => by simp [flat] at h
  | 0, .tup _, h => by simp [flat] at h
  | n + 1, .lst xs, h => by
    have q := flats_plain n xs (by simpa [flat] using h)
    exact ⟨by simp only [toP, PyData.plain]; exact q.1, by simp only [toP, PyData.depth]; omega⟩
  | n + 1, .tup xs, h => by
    have q := flats_plain n xs (by simpa [flat] using h)
    exact ⟨by simp only [toP, PyData.plain]; exact q.1, by simp only [toP, PyData.depth]; omega⟩
  | n, .kst _, h => by cases n <;> simp [flat] at h
  | n, .dct _ _, h => by cases n <;> simp [flat] at h
  | n, .obj _ _ _, h => by cases n <;> simp [flat] at h
theorem flats_plain : ∀ (n : Nat) (d : List D), flats n d = true → PyData.plainAll (toPs d) = true ∧ PyData.depthAll (toPs d) ≤ n
  | n, [], _ => ⟨rfl, Nat.zero_le _⟩
  | n, x :: xs, h => by
    simp only [flats, Bool.and_eq_true] at h
    have q1 := flat_plain n x h.1
    have q2 := flats_plain n xs h.2
    exact ⟨by simp only [toPs, PyData.plainAll, q1.1, q2.1, Bool.and_self], by simp only [toPs, PyData.depthAll]; omega⟩
end
mutual
theorem Rep.dp {g : G0} {F H : Hp} (s : Le F H) : ∀ {v : V} {d : D} (n : Nat), Rep g F v d → flat n d = true → Dp g.K H v (toP d)
  | _, _, _, .non, _ => .non
  | _, _, _, .bl b, _ => .bl b
  | _, _, _, .int i, _ => .int i
  | _, _, _, .str x, _ => .str x
  | _, _, 0, .lst _ _, h => by simp [flat] at h
  | _, _, 0, .tup _ _, h => by simp [flat] at h
  | _, _, n + 1, .lst h r, f => .lst (SqL.of (s _ _ h)) (Reps.dp s n r (by simpa [flat] using f))
  | _, _, n + 1, .tup h r, f => .tup (le_t s h) (Reps.dp s n r (by simpa [flat] using f))
  | _, _, n, .kst _ _, h => by cases n <;> simp [flat] at h
  | _, _, n, .dk _ _, h => by cases n <;> simp [flat] at h
  | _, _, n, .dt _ _, h => by cases n <;> simp [flat] at h
  | _, _, n, .obj _ _, h => by cases n <;> simp [flat] at h
theorem Reps.dp {g : G0} {F H : Hp} (s : Le F H) : ∀ {vs : List V} {ds : List D} (n : Nat), Reps g F vs ds → flats n ds = true → DpAll g.K H vs (toPs ds)
  | _, _, _, .nil, _ => .nil
  | _, _, n, .cons h r, f => by
    simp only [flats, Bool.and_eq_true] at f
    exact .cons (Rep.dp s n h f.1) (Reps.dp s n r f.2)
end
section sims
variable {g : G0} {F H : Hp} {v : V} {d : D}
theorem Cont.dp (s : Le F H) (c : Cont g F H v d) {n : Nat} (f : flat n d = true) : Dp g.K H v (toP d) := by
  rcases c with r | ⟨a, rfl, _, c⟩
  · exact r.dp s n f
  · cases c with
    | lst h r =>
      cases n with
      | zero => simp [flat] at f
      | succ n => exact .lst (SqL.of h) (r.dp s n (by simpa [flat] using f))
    | dk _ _ => cases n <;> simp [flat] at f
    | dt _ _ => cases n <;> simp [flat] at f
    | obj _ _ => cases n <;> simp [flat] at f
theorem PostR.val {Q : VK} (s : Le F H) (p : PostR g F H Q (.val d)) (r : Rep g F v d) : Q v H := p v F H (.refl s) r
theorem PostR.bl {Q : VK} {b : Bool} (s : Le F H) (p : PostR g F H Q (.val (.bl b))) : Q (.bl b) H := p _ F H (.refl s) (.bl b)
theorem PostR.int {Q : VK} {b : Int} (s : Le F H) (p : PostR g F H Q (.val (.int b))) : Q (.int b) H := p _ F H (.refl s) (.int b)
theorem PostR.str {Q : VK} {b : Str} (s : Le F H) (p : PostR g F H Q (.val (.str b))) : Q (.str b) H := p _ F H (.refl s) (.str b)
theorem PostR.lst {Q : VK} {xs : List V} {ds : List D} (s : Le F H) (p : PostR g F H Q (.new (.lst ds))) (r : Reps g F xs ds) : ∀ q, H q = none → Q (.ref q) (upd H q (.lst xs)) :=
  fun q n => p q F _ (Ext.laid s n) n (le_none s n) (.lst upd_same r)
theorem PostR.tup {Q : VK} {xs : List V} {ds : List D} (s : Le F H) (p : PostR g F H Q (.val (.tup ds))) (r : Reps g F xs ds) : ∀ q, H q = none → Q (.ref q) (upd H q (.tup xs)) :=
  fun q n => by
    have x : Ext F H (upd F q (.tup xs)) (upd H q (.tup xs)) := Ext.frozen s n
    exact p _ _ _ x (.tup (SqT.of upd_same) (r.mono x.f))

/-! two ints -/
def rI2 (C : Int → Int → Prop) (f : Int → Int → Int) : R2 := rI C fun i j => .int (f i j)
def o2I (C : Int → Int → Bool) (f : Int → Int → Int) : D → D → Option RK
  | .int i, .int j => if C i j then some (.val (.int (f i j))) else none
  | _, _ => none
theorem sim_I {C : Int → Int → Prop} {Cb : Int → Int → Bool} {f : Int → Int → Int} (hC : ∀ i j, Cb i j = true → C i j) : OpSim g (rI C fun i j => .int (f i j)) (o2I Cb f) := fun F H x y dx dy res Q s cx cy e p => by
  cases dx <;> cases dy <;> first | (cases e; done) | skip
  rename_i i j
  simp only [o2I] at e
  split at e
  · rename_i h; cases e; exact ⟨i, j, cx.int, cy.int, hC _ _ h, p.int s⟩
  · cases e
theorem sim_I0 {f : Int → Int → Int} : OpSim g (rI0 fun i j => .int (f i j)) (o2I (fun _ _ => true) f) := fun F H x y dx dy res Q s cx cy e p => by
  cases dx <;> cases dy <;> first | (cases e; done) | skip
  rename_i i j
  cases e; exact ⟨i, j, cx.int, cy.int, p.int s⟩
def o2C (f : Int → Int → Bool) : D → D → Option RK
  | .int i, .int j => some (.val (.bl (f i j)))
  | _, _ => none
theorem sim_C {f : Int → Int → Bool} : OpSim g (rI0 fun i j => .bl (f i j)) (o2C f) := fun F H x y dx dy res Q s cx cy e p => by
  cases dx <;> cases dy <;> first | (cases e; done) | skip
  rename_i i j
  cases e; exact ⟨i, j, cx.int, cy.int, p.bl s⟩
/-- + -/
def rAddG : R2 := fun x y H Q => (rI0 fun i j => .int (i + j)) x y H Q ∨ rCat x y H Q ∨ ∃ i j, x = .str i ∧ y = .str j ∧ i.length + j.length ≤ sizeLine ∧ Q (.str (i ++ j)) H
theorem op_addG {X : Cx} : OpR X (binaryOp .Add) rAddG := op_add.or (op_cat.or op_add_str)
def oAdd : D → D → Option RK
  | .int i, .int j => some (.val (.int (i + j)))
  | .lst a, .lst b => if a.length + b.length ≤ most then some (.new (.lst (a ++ b))) else none
  | .str a, .str b => if a.length + b.length ≤ most then some (.val (.str (a ++ b))) else none
  | _, _ => none
theorem sim_add : OpSim g rAddG oAdd := fun F H x y dx dy res Q s cx cy e p => by
  cases dx <;> cases dy <;> first | (cases e; done) | skip
  · cases e; exact .inl ⟨_, _, cx.int, cy.int, p.int s⟩
  · rename_i a b
    simp only [oAdd] at e
    split at e
    · rename_i h; cases e; exact .inr (.inr ⟨_, _, cx.str, cy.str, most_line h, p.str s⟩)
    · cases e
  · rename_i a b
    simp only [oAdd] at e
    split at e
    · rename_i h
      cases e
      obtain ⟨a1, xs, rfl, h1, r1⟩ := cx.lst s
      obtain ⟨a2, ys, rfl, h2, r2⟩ := cy.lst s
      exact .inr (.inl ⟨a1, a2, xs, ys, rfl, rfl, h1, h2, by rw [r1.length, r2.length]; exact most_line h, p.lst s (r1.append r2)⟩)
    · cases e
def oSub := o2I (fun _ _ => true) (fun i j => i - j)
def small (i : Int) : Bool := decide (-(2 ^ 64) < i ∧ i < 2 ^ 64)
def oMul := o2I (fun i j => small i || small j) (fun i j => i * j)
theorem sim_mul : OpSim g (rI CMul fun i j => .int (i * j)) oMul := sim_I fun i j h => by
  rcases Bool.or_eq_true_iff.mp h with h | h
  · exact .inl (of_decide_eq_true h)
  · exact .inr (of_decide_eq_true h)
def oDiv := o2I (fun _ j => decide (j ≠ 0 ∧ j.natAbs < 1073741824)) Int.fdiv
theorem sim_div : OpSim g (rI CDivN fun i j => .int (i.fdiv j)) oDiv := sim_I fun i j h => (show j ≠ 0 ∧ j.natAbs < 1073741824 from of_decide_eq_true h)
def oMod := o2I (fun _ j => decide (j ≠ 0)) Int.fmod
theorem sim_mod : OpSim g (rI (fun _ j => j ≠ 0) fun i j => .int (i.fmod j)) oMod := sim_I fun i j h => of_decide_eq_true h
def oPow := o2I (fun i j => decide (0 ≤ j ∧ j ≤ 1000000 ∧ i.natAbs < 2 ^ 64)) (fun i j => i ^ j.toNat)
theorem sim_pow : OpSim g (rI CPow fun i j => .int (i ^ j.toNat)) oPow := sim_I fun i j h => (show 0 ≤ j ∧ j ≤ 1000000 ∧ i.natAbs < 2 ^ 64 from of_decide_eq_true h)
abbrev oLt := o2C fun i j => decide (i < j)
abbrev oLe := o2C fun i j => decide (i ≤ j)
abbrev oGt := o2C fun i j => decide (j < i)
abbrev oGe := o2C fun i j => decide (j ≤ i)

/-! == -/
def oEq : D → D → Option RK := fun d e => if flat 8 d && flat 8 e then some (.val (.bl (eqv d e))) else none
def oNe : D → D → Option RK := fun d e => if flat 8 d && flat 8 e then some (.val (.bl (!eqv d e))) else none
def rEqP (K : PySem.W.Frag) : R2 := fun x y H Q => ∃ d e, Dp K H x d ∧ Dp K H y e ∧ d.plain = true ∧ e.plain = true ∧ d.depth ≤ 8 ∧ Q (.bl (PyData.eqv d e)) H
def rNeP (K : PySem.W.Frag) : R2 := fun x y H Q => ∃ d e, Dp K H x d ∧ Dp K H y e ∧ d.plain = true ∧ e.plain = true ∧ d.depth ≤ 8 ∧ Q (.bl (!PyData.eqv d e)) H
theorem op_eqP {X : Cx} (hu : X.A.units + 64 < cLine) : OpR X (compareOp .Eq) (rEqP X.K) := by
  intro pins s σ H x y v u Q I rx ry h
  obtain ⟨d, e, hd, he, sd, se, dp, q⟩ := h
  obtain ⟨as, r1⟩ := Dp.reads I d x v hd rx
  obtain ⟨bs, r2⟩ := Dp.reads I e y u he ry
  exact SeqAt.eq_plain r1 r2 sd se (by omega) ⟨.bl _, H, I, rfl, q⟩
theorem op_neP {X : Cx} (hu : X.A.units + 64 < cLine) : OpR X (compareOp .NotEq) (rNeP X.K) := by
  intro pins s σ H x y v u Q I rx ry h
  obtain ⟨d, e, hd, he, sd, se, dp, q⟩ := h
  obtain ⟨as, r1⟩ := Dp.reads I d x v hd rx
  obtain ⟨bs, r2⟩ := Dp.reads I e y u he ry
  exact SeqAt.ne_plain r1 r2 sd se (by omega) ⟨.bl _, H, I, rfl, q⟩
theorem sim_eq : OpSim g (rEqP g.K) oEq := fun F H x y dx dy res Q s cx cy e p => by
  unfold oEq at e
  split at e
  · rename_i h
    rw [Bool.and_eq_true] at h
    cases e
    exact ⟨toP dx, toP dy, cx.dp s h.1, cy.dp s h.2, (flat_plain _ _ h.1).1, (flat_plain _ _ h.2).1, (flat_plain _ _ h.1).2, by rw [flat_eqv _ _ _ _ h.1 h.2]; exact p.bl s⟩
  · cases e
theorem sim_ne : OpSim g (rNeP g.K) oNe := fun F H x y dx dy res Q s cx cy e p => by
  unfold oNe at e
  split at e
  · rename_i h
    rw [Bool.and_eq_true] at h
    cases e
    exact ⟨toP dx, toP dy, cx.dp s h.1, cy.dp s h.2, (flat_plain _ _ h.1).1, (flat_plain _ _ h.2).1, (flat_plain _ _ h.1).2, by rw [flat_eqv _ _ _ _ h.1 h.2]; exact p.bl s⟩
  · cases e
/-! is None -/
def isNon : D → Bool
  | .non => true
  | _ => false
def oIsN : D → D → Option RK := fun d e => match e with
  | .non => some (.val (.bl (isNon d)))
  | _ => none
def oNotN : D → D → Option RK := fun d e => match e with
  | .non => some (.val (.bl (!isNon d)))
  | _ => none
theorem Cont.isNon (c : Cont g F H v d) : decide (v = .non) = isNon d := by
  rcases c with r | ⟨a, rfl, _, c⟩
  · cases r <;> rfl
  · cases c <;> rfl
theorem sim_isN : OpSim g (fun x y H Q => y = .non ∧ Q (.bl (decide (x = .non))) H) oIsN := fun F H x y dx dy res Q s cx cy e p => by
  cases dy <;> first | (cases e; done) | skip
  cases e; exact ⟨cy.non, by rw [cx.isNon]; exact p.bl s⟩
theorem sim_notN : OpSim g (fun x y H Q => y = .non ∧ Q (.bl (!decide (x = .non))) H) oNotN := fun F H x y dx dy res Q s cx cy e p => by
  cases dy <;> first | (cases e; done) | skip
  cases e; exact ⟨cy.non, by rw [cx.isNon]; exact p.bl s⟩
/-! in, not in, over lists and tuples -/
def rInP (K : PySem.W.Frag) (neg : Bool) : R2 := fun x y H Q => ∃ d es, Dp K H x d ∧ (Dp K H y (.list es) ∨ Dp K H y (.tuple es)) ∧ d.plain = true ∧ PyData.plainAll es = true ∧ d.depth ≤ 8 ∧ Q (.bl (if neg then !es.any fun y => PyData.eqv y d else es.any fun y => PyData.eqv y d)) H
theorem op_inP {X : Cx} (hu : X.A.units + 64 < cLine) : OpR X (compareOp .In) (rInP X.K false) := by
  intro pins s σ H x y v u Q I rx ry h
  obtain ⟨d, es, hd, he, sd, se, dp, q⟩ := h
  obtain ⟨as, r1⟩ := Dp.reads I d x v hd rx
  rcases he with he | he
  · obtain ⟨bs, r2⟩ := Dp.reads I _ y u he ry
    exact SeqAt.in_list_data r2 r1 se sd (by omega) ⟨.bl _, H, I, rfl, q⟩
  · obtain ⟨bs, r2⟩ := Dp.reads I _ y u he ry
    exact SeqAt.in_tuple_data r2 r1 se sd (by omega) ⟨.bl _, H, I, rfl, q⟩
theorem op_notInP {X : Cx} (hu : X.A.units + 64 < cLine) : OpR X (compareOp .NotIn) (rInP X.K true) := by
  intro pins s σ H x y v u Q I rx ry h
  obtain ⟨d, es, hd, he, sd, se, dp, q⟩ := h
  obtain ⟨as, r1⟩ := Dp.reads I d x v hd rx
  rcases he with he | he
  · obtain ⟨bs, r2⟩ := Dp.reads I _ y u he ry
    exact SeqAt.notIn_list_data r2 r1 se sd (by omega) ⟨.bl _, H, I, rfl, q⟩
  · obtain ⟨bs, r2⟩ := Dp.reads I _ y u he ry
    exact SeqAt.notIn_tuple_data r2 r1 se sd (by omega) ⟨.bl _, H, I, rfl, q⟩
def seqD : D → Option (List D)
  | .lst xs => some xs
  | .tup xs => some xs
  | _ => none
def oIn (neg : Bool) : D → D → Option RK := fun d e => match seqD e with
  | some es => if flat 8 d && flats 8 es then some (.val (.bl (if neg then !es.any fun y => eqv y d else es.any fun y => eqv y d))) else none
  | none => none
theorem any_eqv {n m : Nat} {d : D} (h : flat n d = true) : ∀ {es : List D}, flats m es = true → ((toPs es).any fun y => PyData.eqv y (toP d)) = es.any fun y => eqv y d
  | [], _ => rfl
  | e :: es, f => by
    simp only [flats, Bool.and_eq_true] at f
    simp only [toPs, List.any_cons, flat_eqv _ _ _ _ f.1 h, any_eqv h f.2]
theorem sim_in {neg : Bool} : OpSim g (rInP g.K neg) (oIn neg) := fun F H x y dx dy res Q s cx cy e p => by
  unfold oIn at e
  cases es : seqD dy with
  | none => rw [es] at e; cases e
  | some xs =>
    rw [es] at e
    dsimp only at e
    split at e
    · rename_i h
      rw [Bool.and_eq_true] at h
      cases e
      refine ⟨toP dx, toPs xs, cx.dp s h.1, ?_, (flat_plain _ _ h.1).1, (flats_plain _ _ h.2).1, (flat_plain _ _ h.1).2, by rw [any_eqv h.1 h.2]; exact p.bl s⟩
      cases dy <;> first | (cases es; done) | skip
      · cases es; exact .inl (by have := cy.dp s (n := 9) (by simpa [flat] using h.2); simpa [toP] using this)
      · cases es; exact .inr (by have := cy.dp s (n := 9) (by simpa [flat] using h.2); simpa [toP] using this)
    · cases e

/-! a[i] -/
def oIx : D → D → Option RK := fun d e => match e with
  | .int i => (match d with
    | .lst xs => (atI xs i).map .val
    | .tup xs => (atI xs i).map .val
    | .kst xs => (atI xs i).map .val
    | .str z => if z.length ≤ most then (atI z.cps.toList i).map (fun c => .val (.str ⟨#[c]⟩)) else none
    | _ => none)
  | _ => none
theorem Reps.atI {vs : List V} {ds : List D} {i : Int} {d : D} (r : Reps g F vs ds) (e : atI ds i = some d) : ∃ v, L2.atI vs i = some v ∧ Rep g F v d := by
  unfold L2.atI at e ⊢
  rw [r.length]
  cases q : ixN ds.length i with
  | none => rw [q] at e; cases e
  | some j => rw [q] at e; exact r.getD' e
theorem sim_ix : OpSim g (rIx g.K) oIx := fun F H x y dx dy res Q s cx cy e p => by
  cases dy <;> first | (cases e; done) | skip
  rename_i i
  simp only [oIx] at e
  cases dx <;> first | (cases e; done) | skip
  · rename_i z
    dsimp only at e
    split at e
    · rename_i h
      obtain ⟨c, h1, h2⟩ := Option.map_eq_some_iff.mp e
      cases h2
      exact .inr (.inr ⟨z, i, c, cx.str, cy.int, most_line h, h1, p.str s⟩)
    · cases e
  · obtain ⟨d, h1, h2⟩ := Option.map_eq_some_iff.mp e
    cases h2
    obtain ⟨a, xs, rfl, h3, r⟩ := cx.lst s
    obtain ⟨v, h4, h5⟩ := r.atI h1
    exact .inl ⟨a, xs, i, v, rfl, cy.int, SqL.of h3, h4, p.val s h5⟩
  · obtain ⟨d, h1, h2⟩ := Option.map_eq_some_iff.mp e
    cases h2
    obtain ⟨a, xs, rfl, h3, r⟩ := cx.tup s
    obtain ⟨v, h4, h5⟩ := r.atI h1
    exact .inr (.inl ⟨a, xs, i, v, rfl, cy.int, h3, h4, p.val s h5⟩)
  · obtain ⟨d, h1, h2⟩ := Option.map_eq_some_iff.mp e
    cases h2
    obtain ⟨a, xs, rfl, h3, r⟩ := cx.kst s
    obtain ⟨v, h4, h5⟩ := r.atI h1
    exact .inl ⟨a, xs, i, v, rfl, cy.int, h3, h4, p.val s h5⟩
end sims
theorem se_ix {cA : Nat → Addr} {X : Cx} {ma mb : EM} {a b : Expr} {pos : Pos} (ha : SE cA X ma a) (hb : SE cA X mb b) (hs : PlainIx b) : SE cA X (eOp2 oIx ma mb) (.Subscript a b pos) :=
  ⟨fun B W tk => (pe_ix ix_seq (ha.run B W tk) (hb.run B W tk) hs).of fun _ _ _ h => op2_imp (sim_ix (g := gx X cA)) h⟩

/-! ### a[i:j] -/
def partD : AV → List Slot → Option Int := fun a sl => match cont sl a with
  | some (.int i) => some i
  | _ => none
def ePart (m : Option EM) (k : Option Int → EM) : EM := match m with
  | none => k none
  | some m => eB m fun a => fun sl => match cont sl a with
    | some (.int i) => k (some i) sl
    | _ => .bad
def cutD (xs : List D) (lo hi : Option Int) : List D := (xs.drop (HT.sIx xs.length 0 lo)).take (HT.sIx xs.length xs.length hi - HT.sIx xs.length 0 lo)
def oSl (d : D) (lo hi : Option Int) : Option RK := match d with
  | .lst xs => some (.new (.lst (cutD xs lo hi)))
  | .kst xs => some (.new (.lst (cutD xs lo hi)))
  | _ => none
def eSl (a : EM) (lo hi : Option EM) : EM := eB (eV a) fun x => ePart lo fun l => ePart hi fun h => fun sl => match cont sl x with
  | some d => retR (oSl d l h) sl
  | none => .bad
section slices
variable {cA : Nat → Addr} {X : Cx} {g : G0} {B : Base} {W : WX} {F F' H H' : Hp} {σ : St} {sl sl' : List Slot} {Q : VK}
structure SO (cA : Nat → Addr) (X : Cx) (m : Option EM) (e : Option Expr) : Prop where
  run : ∀ (B : Base) (W : WX), Tk X B W → ∃ t : TO, PO X e t ∧ ∀ (F H : Hp) (σ : St) (sl : List Slot) (k : Option Int → EM) (Q : VK) (R : Option Int → Hp → Prop), Good (gx X cA) B F H σ sl → PostE (gx X cA) B W F σ Q (ePart m k sl) →
    (∀ o F' H' sl', Le F F' → Good (gx X cA) B F' H' σ sl' → PostE (gx X cA) B W F' σ Q (k o sl') → R o H') → t σ H R
theorem so_none : SO cA X none none := ⟨fun B W tk => ⟨_, po_none, fun F H σ sl k Q R G p go => go none F H sl (.refl _) G p⟩⟩
theorem so_some {m : EM} {e : Expr} (h : SE cA X m e) : SO cA X (some m) (some e) := ⟨fun B W tk => ⟨_, po_some (h.run B W tk), fun F H σ sl k Q R G p go => by
  refine ⟨F, sl, G, ?_⟩
  unfold ePart eB at p
  cases e1 : m sl with
  | bad => simp only [e1] at p; exact p
  | err c ns vs sl' => simp only [e1] at p; exact p
  | ok a sl' =>
    simp only [e1] at p
    intro v F' H' le G' x
    cases e2 : cont sl' a with
    | none => simp only [e2] at p; exact p.elim
    | some d =>
      simp only [e2] at p
      cases d with
      | int i => exact ⟨i, (x.cont G' e2).int, go (some i) F' H' sl' le G' (PostE.le p le)⟩
      | _ => exact p.elim⟩⟩
theorem cut_reps {xs : List V} {ds : List D} (r : Reps g F xs ds) (lo hi : Option Int) : Reps g F (cutV xs lo hi) (cutD ds lo hi) := by
  unfold cutV cutD
  rw [r.length]
  exact (r.drop _).take _
theorem se_sl {ma : EM} {lo hi : Option EM} {a : Expr} {l h : Option Expr} {p2 pos : Pos} (ha : SE cA X ma a) (hl : SO cA X lo l) (hh : SO cA X hi h) : SE cA X (eSl ma lo hi) (.Subscript a (.Slice l h none p2) pos) := by
  refine ⟨fun B W tk => ?_⟩
  obtain ⟨tl, pl, ql⟩ := hl.run B W tk
  obtain ⟨th, ph, qh⟩ := hh.run B W tk
  refine (pe_slice sl_list (ha.run B W tk) pl ph).of fun σ H Q h => ?_
  obtain ⟨F, sl, G, p⟩ := h
  refine PostE.bind G p fun v x H1 F1 sl1 l1 sa G1 x1 p1 => ?_
  refine ql F1 H1 σ sl1 _ Q _ G1 p1 fun lo' F2 H2 sl2 l2 G2 p2 => ?_
  refine qh F2 H2 σ sl2 _ Q _ G2 p2 fun hi' F3 H3 sl3 l3 G3 p3 => ?_
  have x3 := (x1.le (H' := H3) (sl' := sl3) (l2.trans l3) sa)
  cases e : cont sl3 x with
  | none => rw [e] at p3; exact p3.elim
  | some d =>
    rw [e] at p3
    dsimp only at p3
    have c := x3.cont G3 e
    cases d with
    | lst ds =>
      obtain ⟨a', xs, rfl, hs, r⟩ := c.lst G3.sub
      exact ⟨a', xs, rfl, SqL.of hs, PostR.lst G3.sub (PostE.ofR G3 rfl p3) (cut_reps r lo' hi')⟩
    | kst ds =>
      obtain ⟨a', xs, rfl, hs, r⟩ := c.kst G3.sub
      exact ⟨a', xs, rfl, hs, PostR.lst G3.sub (PostE.ofR G3 rfl p3) (cut_reps r lo' hi')⟩
    | _ => exact p3.elim
end slices
end Za
end
section
set_option Elab.async false
set_option linter.all false
set_option maxRecDepth 100000
set_option maxHeartbeats 2000000
namespace Za
open PySem PySem.Spec PyProof.Rows L2

section fns
variable {g : G0} {F H : Hp}
theorem Conts.nil' {v : List V} (c : Conts g F H v []) : v = [] := by cases c; rfl
/-! len -/
def fLen : List D → Option RK
  | [.lst xs] => some (.val (.int xs.length))
  | [.tup xs] => some (.val (.int xs.length))
  | [.kst xs] => some (.val (.int xs.length))
  | [.str x] => if x.length ≤ most then some (.val (.int x.length)) else none
  | _ => none
theorem sim_len : FnSim g (fun xs H Q => ∃ x n, xs = [x] ∧ LenV g.K x H n ∧ Q (.int n) H) fLen := fun F H vs ds res Q s c e p => by
  match ds, e with
  | [.lst xs], e =>
    cases e
    obtain ⟨x, rfl, cx⟩ := c.one
    obtain ⟨a, ys, rfl, h, r⟩ := cx.lst s
    exact ⟨_, ys.length, rfl, .inl ⟨ys, SqL.of h, rfl⟩, by rw [r.length]; exact p.int s⟩
  | [.tup xs], e =>
    cases e
    obtain ⟨x, rfl, cx⟩ := c.one
    obtain ⟨a, ys, rfl, h, r⟩ := cx.tup s
    exact ⟨_, ys.length, rfl, .inr ⟨ys, h, rfl⟩, by rw [r.length]; exact p.int s⟩
  | [.kst xs], e =>
    cases e
    obtain ⟨x, rfl, cx⟩ := c.one
    obtain ⟨a, ys, rfl, h, r⟩ := cx.kst s
    exact ⟨_, ys.length, rfl, .inl ⟨ys, h, rfl⟩, by rw [r.length]; exact p.int s⟩
  | [.str z], e =>
    simp only [fLen] at e
    split at e
    · rename_i hl
      cases e
      obtain ⟨x, rfl, cx⟩ := c.one
      exact ⟨_, z.length, rfl, by rw [cx.str]; exact ⟨most_line hl, rfl⟩, p.int s⟩
    · cases e
/-! list(x) -/
def fList : List D → Option RK
  | [.lst xs] => some (.new (.lst xs))
  | [.tup xs] => some (.new (.lst xs))
  | [.kst xs] => some (.new (.lst xs))
  | _ => none
theorem sim_list : FnSim g (fun xs H Q => ∃ p ys, xs = [.ref p] ∧ (SqL g.K H p ys ∨ SqT g.K H p ys) ∧ ∀ l, H l = none → Q (.ref l) (upd H l (.lst ys))) fList := fun F H vs ds res Q s c e p => by
  match ds, e with
  | [.lst xs], e =>
    cases e
    obtain ⟨x, rfl, cx⟩ := c.one
    obtain ⟨a, ys, rfl, h, r⟩ := cx.lst s
    exact ⟨a, ys, rfl, .inl (SqL.of h), p.lst s r⟩
  | [.tup xs], e =>
    cases e
    obtain ⟨x, rfl, cx⟩ := c.one
    obtain ⟨a, ys, rfl, h, r⟩ := cx.tup s
    exact ⟨a, ys, rfl, .inr h, p.lst s r⟩
  | [.kst xs], e =>
    cases e
    obtain ⟨x, rfl, cx⟩ := c.one
    obtain ⟨a, ys, rfl, h, r⟩ := cx.kst s
    exact ⟨a, ys, rfl, .inl h, p.lst s r⟩
/-! abs, int, min, max -/
def fAbs : List D → Option RK
  | [.int i] => some (.val (.int (if i < 0 then -i else i)))
  | _ => none
theorem sim_abs : FnSim g (fun xs H Q => ∃ i, xs = [.int i] ∧ Q (.int (if i < 0 then -i else i)) H) fAbs := fun F H vs ds res Q s c e p => by
  match ds, e with
  | [.int i], e =>
    cases e
    obtain ⟨x, rfl, cx⟩ := c.one
    exact ⟨i, by rw [cx.int], p.int s⟩
def fInt : List D → Option RK
  | [.int i] => some (.val (.int i))
  | [.bl k] => some (.val (.int (if k then 1 else 0)))
  | _ => none
theorem sim_int : FnSim g (fun xs H Q => (∃ i, xs = [.int i] ∧ Q (.int i) H) ∨ ∃ k, xs = [.bl k] ∧ Q (.int (if k then 1 else 0)) H) fInt := fun F H vs ds res Q s c e p => by
  match ds, e with
  | [.int i], e =>
    cases e
    obtain ⟨x, rfl, cx⟩ := c.one
    exact .inl ⟨i, by rw [cx.int], p.int s⟩
  | [.bl k], e =>
    cases e
    obtain ⟨x, rfl, cx⟩ := c.one
    exact .inr ⟨k, by rw [cx.bl], p.int s⟩
def fMax2 : List D → Option RK
  | [.int i, .int j] => some (.val (.int (if j > i then j else i)))
  | _ => none
def fMin2 : List D → Option RK
  | [.int i, .int j] => some (.val (.int (if j < i then j else i)))
  | _ => none
theorem sim_max2 : FnSim g (fun xs H Q => ∃ i j, xs = [.int i, .int j] ∧ Q (.int (if j > i then j else i)) H) fMax2 := fun F H vs ds res Q s c e p => by
  match ds, e with
  | [.int i, .int j], e =>
    cases e
    obtain ⟨x, y, rfl, cx, cy⟩ := c.two
    exact ⟨i, j, by rw [cx.int, cy.int], p.int s⟩
theorem sim_min2 : FnSim g (fun xs H Q => ∃ i j, xs = [.int i, .int j] ∧ Q (.int (if j < i then j else i)) H) fMin2 := fun F H vs ds res Q s c e p => by
  match ds, e with
  | [.int i, .int j], e =>
    cases e
    obtain ⟨x, y, rfl, cx, cy⟩ := c.two
    exact ⟨i, j, by rw [cx.int, cy.int], p.int s⟩
/-- a list of ints -/
def intsD : List D → Option (List Int)
  | [] => some []
  | .int i :: ds => (intsD ds).map (i :: ·)
  | _ => none
theorem intsD_eq : ∀ {ds : List D} {ns : List Int}, intsD ds = some ns → ds = ns.map D.int
  | [], ns, e => by cases e; rfl
  | d :: ds, ns, e => by
    cases d <;> first | (cases e; done) | skip
    obtain ⟨ms, h1, h2⟩ := Option.map_eq_some_iff.mp e
    subst h2
    rw [intsD_eq h1]; rfl
theorem intsD_map (ns : List Int) : intsD (ns.map D.int) = some ns := by
  induction ns with
  | nil => rfl
  | cons n ns ih => simp [intsD, ih]
def minI : List Int → Int
  | [] => 0
  | [a] => a
  | a :: b :: r => let m := minI (b :: r); if a ≤ m then a else m
theorem minI_spec : ∀ (ns : List Int), ns ≠ [] → minI ns ∈ ns ∧ ∀ y ∈ ns, minI ns ≤ y
  | [], h => absurd rfl h
  | [a], _ => ⟨by simp [minI], fun y hy => by simp at hy; subst hy; simp [minI]⟩
  | a :: b :: r, _ => by
    obtain ⟨h1, h2⟩ := minI_spec (b :: r) (by simp)
    unfold minI
    dsimp only
    by_cases q : a ≤ minI (b :: r)
    · rw [if_pos q]
      refine ⟨List.mem_cons_self, fun y hy => ?_⟩
      rcases List.mem_cons.mp hy with rfl | hy
      · exact Int.le_refl _
      · exact Int.le_trans q (h2 y hy)
    · rw [if_neg q]
      refine ⟨List.mem_cons_of_mem _ h1, fun y hy => ?_⟩
      rcases List.mem_cons.mp hy with rfl | hy
      · omega
      · exact h2 y hy
theorem minI_uniq {ns : List Int} {m : Int} (h1 : m ∈ ns) (h2 : ∀ y ∈ ns, m ≤ y) : m = minI ns := by
  have hne : ns ≠ [] := fun z => by rw [z] at h1; cases h1
  obtain ⟨a, b⟩ := minI_spec ns hne
  exact Int.le_antisymm (h2 _ a) (b _ h1)
def fMin : List D → Option RK
  | [.lst ds] => (match intsD ds with
    | some ns => if ns.isEmpty then none else some (.val (.int (minI ns)))
    | none => none)
  | _ => none
theorem sim_min : FnSim g (rMin g.K) fMin := fun F H vs ds res Q s c e p => by
  match ds, e with
  | [.lst xs], e =>
    simp only [fMin] at e
    cases en : intsD xs with
    | none => rw [en] at e; cases e
    | some ns =>
      rw [en] at e
      dsimp only at e
      cases he : ns.isEmpty with
      | true => rw [he] at e; cases e
      | false =>
        rw [he] at e
        cases e
        obtain ⟨x, rfl, cx⟩ := c.one
        obtain ⟨a, ys, rfl, h, r⟩ := cx.lst s
        rw [intsD_eq en] at r
        have := r.of_ints
        subst this
        refine ⟨a, ns, rfl, SqL.of h, ?_, fun m hm hle => ?_⟩
        · cases ns with
          | nil => cases he
          | cons _ _ => simp
        · rw [minI_uniq hm hle]; exact p.int s
/-! sorted of ints -/
def insI (x : Int) : List Int → List Int
  | [] => [x]
  | y :: r => if x ≤ y then x :: y :: r else y :: insI x r
def sortI : List Int → List Int
  | [] => []
  | x :: r => insI x (sortI r)
theorem insI_perm (x : Int) : ∀ l : List Int, (insI x l).Perm (x :: l)
  | [] => .refl _
  | y :: r => by
    unfold insI
    by_cases h : x ≤ y
    · rw [if_pos h]
    · rw [if_neg h]
      exact ((insI_perm x r).cons y).trans (List.Perm.swap x y r)
theorem insI_sorted (x : Int) : ∀ l : List Int, l.Pairwise (· ≤ ·) → (insI x l).Pairwise (· ≤ ·)
  | [], _ => by simp [insI]
  | y :: r, h => by
    unfold insI
    obtain ⟨h1, h2⟩ := List.pairwise_cons.mp h
    by_cases q : x ≤ y
    · rw [if_pos q]
      refine List.pairwise_cons.mpr ⟨fun z hz => ?_, h⟩
      rcases List.mem_cons.mp hz with rfl | hz
      · exact q
      · exact Int.le_trans q (h1 z hz)
    · rw [if_neg q]
      refine List.pairwise_cons.mpr ⟨fun z hz => ?_, insI_sorted x r h2⟩
      rcases List.mem_cons.mp ((insI_perm x r).mem_iff.mp hz) with rfl | hz
      · omega
      · exact h1 z hz
theorem sortI_perm : ∀ l : List Int, (sortI l).Perm l
  | [] => .refl _
  | x :: r => (insI_perm x _).trans ((sortI_perm r).cons x)
theorem sortI_sorted : ∀ l : List Int, (sortI l).Pairwise (· ≤ ·)
  | [] => .nil
  | x :: r => insI_sorted x _ (sortI_sorted r)
theorem sorted_uniq : ∀ {l m : List Int}, l.Pairwise (· ≤ ·) → m.Pairwise (· ≤ ·) → l.Perm m → l = m
  | [], m, _, _, p => (List.Perm.nil_eq p)
  | x :: l, [], _, _, p => by have := p.length_eq; simp at this
  | x :: l, y :: m, h1, h2, p => by
    obtain ⟨a1, a2⟩ := List.pairwise_cons.mp h1
    obtain ⟨b1, b2⟩ := List.pairwise_cons.mp h2
    have e : x = y := by
      have m1 : x ∈ y :: m := p.mem_iff.mp List.mem_cons_self
      have m2 : y ∈ x :: l := p.mem_iff.mpr List.mem_cons_self
      rcases List.mem_cons.mp m1 with h | h
      · exact h
      · rcases List.mem_cons.mp m2 with h' | h'
        · exact h'.symm
        · exact Int.le_antisymm (a1 y h') (b1 x h)
    subst e
    rw [sorted_uniq a2 b2 (List.Perm.cons_inv p)]
def fSortI : List D → Option RK
  | [.lst ds] => (match intsD ds with
    | some ns => some (.new (.lst ((sortI ns).map D.int)))
    | none => none)
  | _ => none
theorem sim_sortI : FnSim g (rSortedI g.K) fSortI := fun F H vs ds res Q s c e p => by
  match ds, e with
  | [.lst xs], e =>
    simp only [fSortI] at e
    cases en : intsD xs with
    | none => rw [en] at e; cases e
    | some ns =>
      rw [en] at e
      cases e
      obtain ⟨x, rfl, cx⟩ := c.one
      obtain ⟨a, ys, rfl, h, r⟩ := cx.lst s
      rw [intsD_eq en] at r
      have := r.of_ints
      subst this
      refine ⟨a, ns, rfl, SqL.of h, fun ns' q hp hs hn => ?_⟩
      rw [sorted_uniq hs (sortI_sorted ns) (hp.trans (sortI_perm ns).symm)]
      exact p.lst s (Reps.ints _) q hn
/-! all, any of truth values -/
def blsD : List D → Option (List Bool)
  | [] => some []
  | .bl i :: ds => (blsD ds).map (i :: ·)
  | _ => none
theorem Reps.of_bls : ∀ {ds : List D} {vs : List V} {bs : List Bool}, Reps g F vs ds → blsD ds = some bs → vs = bs.map V.bl
  | [], _, _, .nil, e => by cases e; rfl
  | d :: ds, _, _, .cons h r, e => by
    cases d <;> first | (cases e; done) | skip
    obtain ⟨ms, h1, h2⟩ := Option.map_eq_some_iff.mp e
    subst h2
    cases h
    rw [Reps.of_bls r h1]; rfl
def fAll : List D → Option RK
  | [.lst ds] => (blsD ds).map fun bs => .val (.bl (bs.all id))
  | _ => none
def fAny : List D → Option RK
  | [.lst ds] => (blsD ds).map fun bs => .val (.bl (bs.any id))
  | _ => none
theorem sim_all : FnSim g (rAll g.K) fAll := fun F H vs ds res Q s c e p => by
  match ds, e with
  | [.lst xs], e =>
    obtain ⟨bs, h1, h2⟩ := Option.map_eq_some_iff.mp e
    subst h2
    obtain ⟨x, rfl, cx⟩ := c.one
    obtain ⟨a, ys, rfl, h, r⟩ := cx.lst s
    have := r.of_bls h1
    subst this
    exact ⟨a, bs, rfl, SqL.of h, p.bl s⟩
theorem sim_any : FnSim g (rAny g.K) fAny := fun F H vs ds res Q s c e p => by
  match ds, e with
  | [.lst xs], e =>
    obtain ⟨bs, h1, h2⟩ := Option.map_eq_some_iff.mp e
    subst h2
    obtain ⟨x, rfl, cx⟩ := c.one
    obtain ⟨a, ys, rfl, h, r⟩ := cx.lst s
    have := r.of_bls h1
    subst this
    exact ⟨a, bs, rfl, SqL.of h, p.bl s⟩
/-! sorted of pairs of ints -/
def lexP (a b : Int × Int) : Bool := decide (a.1 < b.1) || (decide (a.1 = b.1) && decide (a.2 ≤ b.2))
def insP (x : Int × Int) : List (Int × Int) → List (Int × Int)
  | [] => [x]
  | y :: r => if lexP x y then x :: y :: r else y :: insP x r
def sortP : List (Int × Int) → List (Int × Int)
  | [] => []
  | x :: r => insP x (sortP r)
abbrev pairD (p : Int × Int) : D := .tup [.int p.1, .int p.2]
def prsD : List D → Option (List (Int × Int))
  | [] => some []
  | .tup [.int i, .int j] :: ds => (prsD ds).map ((i, j) :: ·)
  | _ => none
theorem prsD_map (ps : List (Int × Int)) : prsD (ps.map pairD) = some ps := by
  induction ps with
  | nil => rfl
  | cons n ns ih => simp [prsD, ih]
theorem prsD_eq : ∀ {ds : List D} {ps : List (Int × Int)}, prsD ds = some ps → ds = ps.map pairD
  | [], ns, e => by cases e; rfl
  | d :: ds, ns, e => by
    cases d <;> first | (cases e; done) | skip
    rename_i xs
    match xs, e with
    | [.int i, .int j], e =>
      obtain ⟨ms, h1, h2⟩ := Option.map_eq_some_iff.mp e
      subst h2
      rw [prsD_eq h1]; rfl
theorem lexP_iff {a b : Int × Int} : lexP a b = true ↔ (a.1 < b.1 ∨ (a.1 = b.1 ∧ a.2 ≤ b.2)) := by simp [lexP]
theorem insP_perm (x : Int × Int) : ∀ l : List (Int × Int), (insP x l).Perm (x :: l)
  | [] => .refl _
  | y :: r => by
    unfold insP
    by_cases h : lexP x y = true
    · rw [if_pos h]
    · rw [if_neg h]
      exact ((insP_perm x r).cons y).trans (List.Perm.swap x y r)
abbrev leP (a b : Int × Int) : Prop := a.1 < b.1 ∨ (a.1 = b.1 ∧ a.2 ≤ b.2)
theorem leP_total {a b : Int × Int} (h : ¬ leP a b) : leP b a := by unfold leP at *; omega
theorem leP_trans {a b c : Int × Int} (h : leP a b) (k : leP b c) : leP a c := by unfold leP at *; omega
theorem leP_anti {a b : Int × Int} (h : leP a b) (k : leP b a) : a = b := by
  obtain ⟨a1, a2⟩ := a
  obtain ⟨b1, b2⟩ := b
  unfold leP at *
  dsimp only at *
  have e1 : a1 = b1 := by omega
  have e2 : a2 = b2 := by omega
  rw [e1, e2]
theorem insP_sorted (x : Int × Int) : ∀ l : List (Int × Int), l.Pairwise leP → (insP x l).Pairwise leP
  | [], _ => by simp [insP]
  | y :: r, h => by
    unfold insP
    obtain ⟨h1, h2⟩ := List.pairwise_cons.mp h
    by_cases q : lexP x y = true
    · rw [if_pos q]
      refine List.pairwise_cons.mpr ⟨fun z hz => ?_, h⟩
      rcases List.mem_cons.mp hz with rfl | hz
      · exact lexP_iff.mp q
      · exact leP_trans (lexP_iff.mp q) (h1 z hz)
    · rw [if_neg q]
      refine List.pairwise_cons.mpr ⟨fun z hz => ?_, insP_sorted x r h2⟩
      rcases List.mem_cons.mp ((insP_perm x r).mem_iff.mp hz) with rfl | hz
      · exact leP_total fun z => q (lexP_iff.mpr z)
      · exact h1 z hz
theorem sortP_perm : ∀ l : List (Int × Int), (sortP l).Perm l
  | [] => .refl _
  | x :: r => (insP_perm x _).trans ((sortP_perm r).cons x)
theorem sortP_sorted : ∀ l : List (Int × Int), (sortP l).Pairwise leP
  | [] => .nil
  | x :: r => insP_sorted x _ (sortP_sorted r)
theorem sortedP_uniq : ∀ {l m : List (Int × Int)}, l.Pairwise leP → m.Pairwise leP → l.Perm m → l = m
  | [], m, _, _, p => (List.Perm.nil_eq p)
  | x :: l, [], _, _, p => by have := p.length_eq; simp at this
  | x :: l, y :: m, h1, h2, p => by
    obtain ⟨a1, a2⟩ := List.pairwise_cons.mp h1
    obtain ⟨b1, b2⟩ := List.pairwise_cons.mp h2
    have e : x = y := by
      have m1 : x ∈ y :: m := p.mem_iff.mp List.mem_cons_self
      have m2 : y ∈ x :: l := p.mem_iff.mpr List.mem_cons_self
      rcases List.mem_cons.mp m1 with h | h
      · exact h
      · rcases List.mem_cons.mp m2 with h' | h'
        · exact h'.symm
        · exact leP_anti (a1 y h') (b1 x h)
    subst e
    rw [sortedP_uniq a2 b2 (List.Perm.cons_inv p)]
def fSortP : List D → Option RK
  | [.lst ds] => (match prsD ds with
    | some ps => some (.new (.lst ((sortP ps).map pairD)))
    | none => none)
  | _ => none
/-- sorted, the pairs read: whatever holds of the items and their pairs holds of the new list and the sorted pairs -/
def rSortedPT (K : PySem.W.Frag) : List V → Hp → VK → Prop := fun vs H Q => ∃ (a : Addr) (xs : List V) (ps : List (Int × Int)), vs = [V.ref a] ∧ SqL K H a xs ∧ Paired (fun x p => ∃ t, x = V.ref t ∧ SqT K H t [.int p.1, .int p.2]) xs ps ∧
  ∀ ys q, (∀ R : V → Int × Int → Prop, Paired R xs ps → Paired R ys (sortP ps)) → H q = none → Q (.ref q) (upd H q (.lst ys))
theorem pairedAt {α β : Type} {R : α → β → Prop} : ∀ {xs : List α} {ps : List β}, Paired R xs ps → xs.length = ps.length ∧ ∀ (i : Nat) (x : α) (p : β), xs[i]? = some x → ps[i]? = some p → R x p
  | _, _, .nil => ⟨rfl, fun i x p e => by simp at e⟩
  | _, _, .cons r t => by
    obtain ⟨h1, h2⟩ := pairedAt t
    refine ⟨by simp [h1], fun i x p e1 e2 => ?_⟩
    cases i with
    | zero => simp at e1 e2; subst e1; subst e2; exact r
    | succ i => exact h2 i x p (by simpa using e1) (by simpa using e2)
theorem cr_sortedPT {X : Cx} : CallR X (.builtin "sorted") (rSortedPT X.K) := by
  intro pins s σ H vs us Q I r h
  obtain ⟨a, xs, ps, rfl, hs, hx, q⟩ := h
  obtain ⟨its, rv, hl, hz⟩ := I.list hs
  obtain ⟨u, rfl, ru⟩ := vals1 r
  obtain rfl : u = Value.ref a := ru
  obtain ⟨hlen, hget⟩ := pairedAt hx
  let k : V → Int × Int := fun v => ps.getD (xs.findIdx (fun x => decide (x = v))) (0, 0)
  have hk : ∀ (i : Nat) (x : V) (p : Int × Int), xs[i]? = some x → ps[i]? = some p → k x = p := fun i x p e1 e2 => by
    have hm : x ∈ xs := List.mem_of_getElem? e1
    have hj : xs.findIdx (fun y => decide (y = x)) < xs.length := List.findIdx_lt_length_of_exists ⟨x, hm, by simp⟩
    have hx2 := List.findIdx_getElem (xs := xs) (p := fun y => decide (y = x)) (w := hj)
    have hxe := of_decide_eq_true hx2
    have hj2 : xs.findIdx (fun y => decide (y = x)) < ps.length := by omega
    obtain ⟨t, et, ht⟩ := hget i x p e1 e2
    obtain ⟨t', et', ht'⟩ := hget (xs.findIdx (fun y => decide (y = x))) x (ps[xs.findIdx (fun y => decide (y = x))]) (by rw [List.getElem?_eq_getElem hj, hxe]) (by rw [List.getElem?_eq_getElem hj2])
    rw [et] at et'; cases et'
    have z := I.tuple_inj ht' ht
    have z1 := (List.cons.inj z).1
    have z2 := (List.cons.inj (List.cons.inj z).2).1
    show ps.getD (xs.findIdx (fun y => decide (y = x))) (0, 0) = p
    rw [List.getD_eq_getElem?_getD, List.getElem?_eq_getElem hj2]
    exact Prod.ext (V.int.inj z1) (V.int.inj z2)
  have hmap : xs.map k = ps := by
    refine List.ext_getElem? fun i => ?_
    rw [List.getElem?_map]
    cases e : xs[i]? with
    | none =>
      have : ps[i]? = none := by rw [List.getElem?_eq_none_iff] at e ⊢; omega
      rw [this]; rfl
    | some x =>
      have hi := (List.getElem?_eq_some_iff.mp e).1
      rw [List.getElem?_eq_getElem (by omega : i < ps.length)]
      simp only [Option.map_some]
      rw [hk i x ps[i] e (List.getElem?_eq_getElem (by omega))]
  have hmem : ∀ x ∈ xs, ∃ t, x = V.ref t ∧ SqT X.K H t [.int (k x).1, .int (k x).2] := fun x hm => by
    obtain ⟨i, hi⟩ := List.mem_iff_getElem?.mp hm
    have hlt := (List.getElem?_eq_some_iff.mp hi).1
    have e2 : ps[i]? = some ps[i] := List.getElem?_eq_getElem (by omega)
    rw [hk i x _ hi e2]
    exact hget i x _ hi e2
  obtain ⟨e1, e2⟩ := refs_back rv fun x m => by
    obtain ⟨t, e, _⟩ := hmem x m
    exact ⟨t, e⟩
  refine SrtO.sorted_pairsO (k := fun u => k (backV u)) hl.isList (by rw [← rv.length]; exact hz) (fun v hv => ?_) fun h' d out h1 h2 kp hd hn => ?_
  · obtain ⟨t, rfl⟩ := e2 v hv
    have hm : V.ref t ∈ xs := by rw [e1]; exact List.mem_map.mpr ⟨_, hv, rfl⟩
    obtain ⟨t', e, ht⟩ := hmem _ hm
    cases e
    obtain ⟨its2, r2, ⟨o, ho, hc, n, hd⟩, _⟩ := I.tuple ht
    obtain ⟨u1, u2, rfl, ri, rj⟩ := vals2 r2
    obtain ⟨t1, rfl⟩ := ri
    obtain ⟨t2, rfl⟩ := rj
    exact ⟨t, o, t1, t2, n, rfl, ho, hc, hd⟩
  · have h3 : ∀ u ∈ out, ∃ a, u = Value.ref a := fun u hu => e2 u (h2.perm.mem_iff.mp hu)
    obtain ⟨n, hn⟩ := hn
    have hb : SrtO.Stb (ltP k) (out.map backV) xs := by
      rw [e1]
      exact SrtO.Stb.map (ltP_swo k) backV h2
    have hsr : SrtO.Srtd (ltP k) (out.map backV) := SrtO.srtd_map h1
    have es : (out.map backV).map k = sortP ps := by
      refine sortedP_uniq ?_ (sortP_sorted ps) (((hb.perm.map k).trans (by rw [hmap])).trans (sortP_perm ps).symm)
      refine List.pairwise_map.mpr (List.Pairwise.imp (fun {x y} hxy => ?_) hsr)
      have hno : ltP k y x = false := hxy
      have z := SrtO.lexB_no.mp hno
      unfold leP
      omega
    refine ⟨.ref d, upd H d (.lst (out.map backV)), I.laid (t' := s.toks) kp hd ⟨?_, out, n, vals_back h3, hn⟩, rfl, q _ d (fun R hR => ?_) (I.hok.fresh hd)⟩
    · rw [hb.len]
      exact hz
    · rw [← es]
      have all : ∀ ys : List V, (∀ y ∈ ys, R y (k y)) → Paired R ys (ys.map k) := by
        intro ys
        induction ys with
        | nil => intro _; exact .nil
        | cons y ys ih => intro h; exact .cons (h y List.mem_cons_self) (ih fun z hz => h z (List.mem_cons_of_mem _ hz))
      refine all _ fun y hy => ?_
      have hm : y ∈ xs := hb.perm.mem_iff.mp hy
      obtain ⟨i, hi⟩ := List.mem_iff_getElem?.mp hm
      have hlt := (List.getElem?_eq_some_iff.mp hi).1
      have e2 : ps[i]? = some ps[i] := List.getElem?_eq_getElem (by omega)
      rw [hk i y _ hi e2]
      exact (pairedAt hR).2 i y _ hi e2
theorem sim_sortP : FnSim g (rSortedPT g.K) fSortP := fun F H vs ds res Q s c e p => by
  match ds, e with
  | [.lst xs], e =>
    simp only [fSortP] at e
    cases en : prsD xs with
    | none => rw [en] at e; cases e
    | some ps =>
      rw [en] at e
      cases e
      obtain ⟨x, rfl, cx⟩ := c.one
      obtain ⟨a, ys, rfl, h, r⟩ := cx.lst s
      rw [prsD_eq en] at r
      have pr : ∀ {ys : List V} {ps : List (Int × Int)}, Reps g F ys (ps.map pairD) → Paired (fun x p => Rep g F x (pairD p)) ys ps := by
        intro ys ps
        induction ps generalizing ys with
        | nil => intro r; cases r; exact .nil
        | cons p ps ih => intro r; cases r with | cons h r => exact .cons h (ih r)
      have rp : ∀ {ys : List V} {ps : List (Int × Int)}, Paired (fun x p => Rep g F x (pairD p)) ys ps → Reps g F ys (ps.map pairD) := by
        intro ys ps q
        induction q with
        | nil => exact .nil
        | cons h _ ih => exact .cons h ih
      refine ⟨a, ys, ps, rfl, SqL.of h, Paired.mapP (pr r) fun x p hp => ?_, fun zs q hR hn => p.lst s (rp (hR _ (pr r))) q hn⟩
      cases hp with
      | tup h1 r1 =>
        cases r1 with
        | cons a1 r1 => cases r1 with
          | cons b1 r1 => cases r1; cases a1; cases b1; exact ⟨_, rfl, le_t s h1⟩
end fns
end Za
end
section
set_option Elab.async false
set_option linter.all false
set_option maxRecDepth 100000
set_option maxHeartbeats 2000000
namespace Za
open PySem PySem.Spec PyProof.Rows L2

/-! ### methods that read -/
/-- o.m(args): a list's; f of its content and the arguments' -/
def eMeth (T : D → Bool) (f : D → List D → Option RK) (m : EM) (l : LM) : EM := eB (eV m) fun x => fun sl => match cont sl x with
  | some d0 => if T d0 then (match l sl with
    | .ok as sl' => (match cont sl' x, conts sl' as with
      | some d, some ds => retR (f d ds) sl'
      | _, _ => .bad)
    | .err c ns vs sl' => .err c ns vs sl'
    | .bad => .bad) else .bad
  | none => .bad
def MethSim (g : G0) (r : V → List V → Hp → VK → Prop) (f : D → List D → Option RK) : Prop := ∀ (F H : Hp) (x : V) (d : D) (vs : List V) (ds : List D) (res : RK) (Q : VK), Le F H → Cont g F H x d → Conts g F H vs ds → f d ds = some res → PostR g F H Q res → r x vs H Q
def isLK : D → Bool
  | .lst _ => true
  | .kst _ => true
  | _ => false
def isStrD : D → Bool
  | .str _ => true
  | _ => false
section meths
variable {cA : Nat → Addr} {X : Cx} {g : G0} {B : Base} {W : WX} {F F' H H' : Hp} {σ : St} {sl sl' : List Slot} {Q : VK}
theorem meth_imp {T : D → Bool} {ty : String} {r : V → List V → Hp → VK → Prop} {f : D → List D → Option RK} {m : EM} {l : LM} (hT : ∀ (F H : Hp) (v : V) (d : D), Le F H → Cont g F H v d → T d = true → tyV g.K ty v H) (sim : MethSim g r f) (h : tE g B W (eMeth T f m l) σ H Q) :
    tBM g.K ty r (tE g B W m) (tL g B W l) σ H Q := by
  obtain ⟨F, sl, G, p⟩ := h
  refine PostE.bind G p fun v x H1 F1 sl1 l1 sa G1 x1 p1 => ?_
  cases e0 : cont sl1 x with
  | none => rw [e0] at p1; exact p1.elim
  | some d0 =>
    rw [e0] at p1
    dsimp only at p1
    by_cases ht : T d0 = true
    · rw [if_pos ht] at p1
      refine ⟨hT F1 H1 v d0 G1.sub (x1.cont G1 e0) ht, F1, sl1, G1, ?_⟩
      cases e : l sl1 with
      | bad => rw [e] at p1; exact p1
      | err c ns vs sl' => rw [e] at p1; exact p1
      | ok as sl2 =>
        rw [e] at p1
        intro vs F2 H2 le2 G2 xs
        dsimp only at p1
        cases e1 : cont sl2 x with
        | none => rw [e1] at p1; exact p1.elim
        | some d =>
          cases e2 : conts sl2 as with
          | none => rw [e1, e2] at p1; exact p1.elim
          | some ds =>
            rw [e1, e2] at p1
            dsimp only at p1
            cases e3 : f d ds with
            | none => rw [e3] at p1; exact p1.elim
            | some res => exact sim F2 H2 v d vs ds res Q G2.sub ((x1.le (sl' := sl2) le2 sa).cont G2 e1) (conts_ok G2 xs e2) e3 (PostE.ofR G2 e3 (PostE.le p1 le2))
    · rw [if_neg ht] at p1; exact p1.elim
theorem tyV_lst (F H : Hp) (v : V) (d : D) (s : Le F H) (c : Cont g F H v d) (h : isLK d = true) : tyV g.K "list" v H := by
  cases d <;> first | (cases h; done) | skip
  · obtain ⟨a, ys, rfl, h, r⟩ := c.lst s
    exact .inl ⟨rfl, _, SqL.of h⟩
  · obtain ⟨a, ys, rfl, h, r⟩ := c.kst s
    exact .inl ⟨rfl, _, h⟩
theorem se_methL {r : V → List V → Hp → VK → Prop} {f : D → List D → Option RK} {m : EM} {l : LM} {E o : Expr} {es : List Expr} (sim : MethSim (gx X cA) r f)
    (pe : ∀ to t, PE X o to → PA X es t → PE X E (tBM X.K "list" r to t)) (ho : SE cA X m o) (ha : SL cA X l es) : SE cA X (eMeth isLK f m l) E :=
  ⟨fun B W tk => (pe _ _ (ho.run B W tk) (ha.run B W tk)).of fun _ _ _ h => meth_imp (g := gx X cA) tyV_lst sim h⟩
/-! index: of ints -/
def idxI (ns : List Int) (k : Int) : Option Nat := ns.findIdx? (fun n => n == k)
def mIndex : D → List D → Option RK
  | .lst ds, [.int k] => (match intsD ds with
    | some ns => (idxI ns k).map fun j => .val (.int (j : Nat))
    | none => none)
  | _, _ => none
theorem sim_index : MethSim g (rIndex g.K) mIndex := fun F H x d vs ds res Q s cx c e p => by
  match d, ds, e with
  | .lst es, [.int k], e =>
    simp only [mIndex] at e
    cases en : intsD es with
    | none => rw [en] at e; cases e
    | some ns =>
      rw [en] at e
      obtain ⟨j, h1, h2⟩ := Option.map_eq_some_iff.mp e
      subst h2
      obtain ⟨y, rfl, cy⟩ := c.one
      obtain ⟨a, ys, rfl, h, r⟩ := cx.lst s
      rw [intsD_eq en] at r
      have := r.of_ints
      subst this
      have hj : j < ns.length := (List.findIdx?_eq_some_iff_getElem.mp h1).1
      obtain ⟨_, q1, q2⟩ := List.findIdx?_eq_some_iff_getElem.mp h1
      refine ⟨a, ns.map V.int, y, j, .int ns[j], rfl, rfl, SqL.of h, by rw [cy.int]; rfl, ?_, by rw [List.getElem?_map, List.getElem?_eq_getElem hj]; rfl, ?_, fun m z hm hz => ?_, p.int s⟩
      · rw [List.all_eq_true]
        intro v hv
        obtain ⟨n, _, rfl⟩ := List.mem_map.mp hv
        rfl
      · rw [cy.int]
        have : ns[j] = k := by simpa using q1
        rw [this]
        show (k == k) = true
        simp
      · rw [List.getElem?_map] at hz
        obtain ⟨n, hn, rfl⟩ := Option.map_eq_some_iff.mp hz
        rw [cy.int]
        have hlt := (List.getElem?_eq_some_iff.mp hn).1
        have := q2 m hm
        have e2 := (List.getElem?_eq_some_iff.mp hn).2
        rw [e2] at this
        show (n == k) = false
        simpa using this
/-! changes -/
def uAppend : D → List D → Option (D × D)
  | .lst xs, [d] => if xs.length ≤ most then some (.lst (xs ++ [d]), .non) else none
  | _, _ => none
theorem sim_append : MutSim g rAppend uAppend := fun F H a d vs ds d' res Q s n c r e p => by
  match d, ds, e with
  | .lst xs, [y], e =>
    simp only [uAppend] at e
    split at e
    · rename_i hl
      cases e
      cases c with
      | lst h rx =>
        cases r with
        | cons ry r0 =>
          cases r0
          exact ⟨a, _, _, rfl, rfl, h, by rw [rx.length]; exact most_lt hl, p _ _ (.lst upd_same (rx.append (.one ry))) .non⟩
    · cases e
def uPop : D → List D → Option (D × D)
  | .lst xs, [] => (xs[xs.length - 1]?).map fun y => (.lst xs.dropLast, y)
  | _, _ => none
theorem Reps.dropLast {F : Hp} {vs : List V} {ds : List D} (h : Reps g F vs ds) : Reps g F vs.dropLast ds.dropLast := by
  rw [List.dropLast_eq_take, List.dropLast_eq_take, h.length]
  exact h.take _
theorem sim_pop : MutSim g rPop uPop := fun F H a d vs ds d' res Q s n c r e p => by
  match d, ds, e with
  | .lst xs, [], e =>
    obtain ⟨y, h1, h2⟩ := Option.map_eq_some_iff.mp e
    cases h2
    cases c with
    | lst h rx =>
      cases r
      obtain ⟨v, hv, rv⟩ := rx.getD' h1
      exact ⟨a, _, v, rfl, rfl, h, by rw [rx.length]; exact hv, p _ _ (.lst upd_same rx.dropLast) rv⟩
def uPopAt : D → List D → Option (D × D)
  | .lst xs, [.int i] => if 0 ≤ i ∧ i < 2 ^ 62 then (xs[i.toNat]?).map fun y => (.lst (xs.eraseIdx i.toNat), y) else none
  | _, _ => none
theorem sim_popAt : MutSim g rPopAt uPopAt := fun F H a d vs ds d' res Q s n c r e p => by
  match d, ds, e with
  | .lst xs, [.int i], e =>
    simp only [uPopAt] at e
    split at e
    · rename_i hi
      obtain ⟨y, h1, h2⟩ := Option.map_eq_some_iff.mp e
      cases h2
      cases c with
      | lst h rx =>
        cases r with
        | cons r1 r0 =>
          cases r0; cases r1
          obtain ⟨v, hv, rv⟩ := rx.getD' h1
          have hlt := (List.getElem?_eq_some_iff.mp hv).1
          refine ⟨a, _, i, i.toNat, v, rfl, rfl, h, by omega, by omega, ?_, hv, p _ _ (.lst upd_same (rx.eraseIdx _)) rv⟩
          unfold PySem.seqIndex?
          have h0 : ¬ i < 0 := by omega
          simp only [h0]
          first
            | (rw [if_neg (by simp), if_pos (by omega)])
            | (simp; omega)
    · cases e
def uInsert : D → List D → Option (D × D)
  | .lst xs, [.int i, y] => if 0 ≤ i ∧ i < 2 ^ 62 ∧ xs.length ≤ most then some (.lst (xs.take i.toNat ++ [y] ++ xs.drop i.toNat), .non) else none
  | _, _ => none
theorem sim_insert : MutSim g (fun x vs H Q => ∃ (l : Addr) (xs : List V) (i : Int) (y : V), x = .ref l ∧ vs = [.int i, y] ∧ H l = some (.lst xs) ∧ xs.length < sizeLine ∧ 0 ≤ i ∧ i < 2 ^ 63 ∧
    Q .non (upd H l (.lst (xs.take i.toNat ++ [y] ++ xs.drop i.toNat)))) uInsert := fun F H a d vs ds d' res Q s n c r e p => by
  match d, ds, e with
  | .lst xs, [.int i, y], e =>
    simp only [uInsert] at e
    split at e
    · rename_i hi
      cases e
      cases c with
      | lst h rx =>
        cases r with
        | cons r1 r0 => cases r0 with
          | cons r2 r3 =>
            cases r3; cases r1
            exact ⟨a, _, i, _, rfl, rfl, h, by rw [rx.length]; exact most_lt hi.2.2, hi.1, by omega, p _ _ (.lst upd_same (((rx.take _).append (.one r2)).append (rx.drop _))) .non⟩
    · cases e
def uReverse : D → List D → Option (D × D)
  | .lst xs, [] => some (.lst xs.reverse, .non)
  | _, _ => none
theorem sim_reverse : MutSim g rReverse uReverse := fun F H a d vs ds d' res Q s n c r e p => by
  match d, ds, e with
  | .lst xs, [], e =>
    cases e
    cases c with
    | lst h rx => cases r; exact ⟨a, _, rfl, rfl, h, p _ _ (.lst upd_same rx.reverse) .non⟩
def uClear : D → List D → Option (D × D)
  | .lst xs, [] => some (.lst [], .non)
  | _, _ => none
theorem sim_clear : MutSim g rClear uClear := fun F H a d vs ds d' res Q s n c r e p => by
  match d, ds, e with
  | .lst xs, [], e =>
    cases e
    cases c with
    | lst h rx => cases r; exact ⟨a, _, rfl, rfl, h, p _ _ (.lst upd_same .nil) .non⟩

/-! ### isinstance(x, T), T a built-in type -/
def tyD : D → Option String
  | .non => some "NoneType"
  | .bl _ => some "bool"
  | .int _ => some "int"
  | .str _ => some "str"
  | .lst _ => some "list"
  | .kst _ => some "list"
  | .tup _ => some "tuple"
  | _ => none
/-- the types that are asked for -/
def isTyp (t T : String) : Bool := t == T || (t == "bool" && T == "int")
def askT (T : String) : Bool := ["int", "bool", "list", "tuple", "str", "dict"].contains T
theorem kit_is {d : D} {t T : String} (h : tyD d = some t) (hT : askT T = true) : kitB t T = some (isTyp t T) := by
  have ht : t ∈ ["NoneType", "bool", "int", "str", "list", "tuple"] := by
    cases d <;> simp [tyD] at h <;> subst h <;> simp
  have hT' : T ∈ ["int", "bool", "list", "tuple", "str", "dict"] := by
    unfold askT at hT
    exact List.contains_iff_mem.mp hT
  have all : ∀ t ∈ ["NoneType", "bool", "int", "str", "list", "tuple"], ∀ T ∈ ["int", "bool", "list", "tuple", "str", "dict"], kitB t T = some (isTyp t T) := by decide +kernel
  exact all t ht T hT'
theorem Cont.tyx {v : V} {d : D} {t : String} (s : Le F H) (c : Cont g F H v d) (h : tyD d = some t) : TyX g.K H v (.type t) := by
  have sq : ∀ {a : Addr} {xs : List V}, SqL g.K H a xs → TyX g.K H (.ref a) (.type "list") := fun {a xs} q => by
    rcases q with (q | ⟨o, q⟩) | ⟨o, its, n, q1, q2, _⟩
    · exact .base (.lst q)
    · exact .base (.frz q)
    · exact .kList q1 q2
  have st : ∀ {a : Addr} {xs : List V}, SqT g.K H a xs → TyX g.K H (.ref a) (.type "tuple") := fun {a xs} q => by
    rcases q with (q | ⟨o, q⟩) | ⟨o, its, n, q1, q2, _⟩
    · exact .base (.tup q)
    · exact .fTuple q
    · exact .kTuple q1 q2
  cases d with
  | non => cases h; rw [c.non]; exact .base .non
  | bl b => cases h; rw [c.bl]; exact .base (.bl b)
  | int b => cases h; rw [c.int]; exact .base (.int b)
  | str b => cases h; rw [c.str]; exact .base (.str b)
  | lst xs => cases h; obtain ⟨a, ys, rfl, q, _⟩ := c.lst s; exact sq (SqL.of q)
  | kst xs => cases h; obtain ⟨a, ys, rfl, q, _⟩ := c.kst s; exact sq q
  | tup xs => cases h; obtain ⟨a, ys, rfl, q, _⟩ := c.tup s; exact st q
  | _ => cases h
def eIsi (m : EM) (T : String) : EM := eB (eV m) fun x => fun sl => match cont sl x with
  | some d => (match tyD d with
    | some t => if askT T then .ok (.v (.bl (isTyp t T))) sl else .bad
    | none => .bad)
  | none => .bad
theorem isi_imp {m : EM} {T : String} (h : tE g B W (eIsi m T) σ H Q) : tCons (tE g B W m) (tCons (tC (.ty T)) tNil) σ H fun vs H1 => rIsi g.K vs H1 Q := by
  obtain ⟨F, sl, G, p⟩ := h
  refine PostE.bind G p fun v x H1 F1 sl1 l1 sa G1 x1 p1 => ?_
  cases e0 : cont sl1 x with
  | none => rw [e0] at p1; exact p1.elim
  | some d =>
    rw [e0] at p1
    dsimp only at p1
    cases e1 : tyD d with
    | none => rw [e1] at p1; exact p1.elim
    | some t =>
      rw [e1] at p1
      dsimp only at p1
      by_cases hT : askT T = true
      · rw [if_pos hT] at p1
        exact ⟨v, .ty T, .type t, .type T, isTyp t T, rfl, .ty T, (x1.cont G1 e0).tyx G1.sub e1, kit_ty (kit_is e1 hT), p1 _ F1 H1 (.refl _) G1 (.bl _)⟩
      · rw [if_neg hT] at p1; exact p1.elim
theorem se_isi {m : EM} {T : String} {x : Str} {e c : Expr} {px pos : Pos} (hc : PE X c (tC (.ty T))) (hg : L2.Gl X "isinstance") (hm : X.mg "isinstance" = none) (hv : bootBuiltins "isinstance" = some (.builtin "isinstance")) (ha : SE cA X m e)
    (h1 : starEach [c] X.env = (false, eval c X.env) :: starEach [] X.env := by rfl) (he : starEach [e, c] X.env = (false, eval e X.env) :: starEach [c] X.env := by rfl) (hpl : (backTo pos (starEach [c] X.env)).any (·.1) = false := by rfl) :
    SE cA X (eIsi m T) (.Call (.Name "isinstance" px) [e, c] [] pos) :=
  ⟨fun B W tk => (pe_callB call_isi hg hm hv (pa_cons (ha.run B W tk) (pa_cons hc pa_nil h1) he) (by decide) (by decide) he hpl).of fun _ _ _ h => isi_imp h⟩
end meths

/-! ### while -/
def whileL (t : TM) (body : SM) : Nat → SM
  | 0, _ => .bad
  | n + 1, sl => match t sl with
    | .ok true s1 => (match body s1 with
      | .nx s2 => whileL t body n s2
      | .cnt s2 => whileL t body n s2
      | .brk s2 => .nx s2
      | r => r)
    | .ok false s1 => .nx s1
    | .err c ns vs s1 => .err c ns vs s1
    | .bad => .bad
def sWhile (n : Nat) (t : TM) (body : SM) : SM := whileL t body n
section whiles
variable {cA : Nat → Addr} {X : Cx} {g : G0} {B : Base} {W : WX} {F F' H H' : Hp} {σ : St} {sl sl' : List Slot} {Q : VK} {D : Ends}
theorem while_imp {n : Nat} {t : TM} {body : SM} (h : tS g B W (sWhile n t body) D σ H) : tWhile (tT g B W t) (tS g B W body) D σ H := by
  obtain ⟨F, sl, G, p⟩ := h
  refine ⟨fun m σ H => ∃ F sl, Good g B F H σ sl ∧ PostS g B W F D (whileL t body m sl), ⟨n, F, sl, G, p⟩, ?_⟩
  rintro m σ H ⟨F, sl, G, p⟩
  refine ⟨F, sl, G, ?_⟩
  cases m with
  | zero => exact p.elim
  | succ m =>
    unfold whileL at p
    cases et : t sl with
    | bad => rw [et] at p; exact p
    | err c ns vs s1 => rw [et] at p; exact p σ
    | ok k s1 =>
      rw [et] at p
      intro F1 H1 le1 G1
      cases k with
      | false => exact iteF (p σ F1 H1 le1 G1)
      | true =>
        refine iteT ⟨fun σ H => ∃ F sl, Good g B F H σ sl ∧ PostS g B W F D (whileL t body m sl), fun σ' H' q => ⟨m, Nat.lt_succ_self _, q⟩, F1, s1, G1, ?_⟩
        dsimp only at p
        cases eb : body s1 with
        | bad => rw [eb] at p; exact p
        | err c ns vs s2 => rw [eb] at p; exact PostS.le p le1
        | ret a s2 => rw [eb] at p; exact PostS.le (r := .ret a s2) p le1
        | retM ls ks s2 => rw [eb] at p; exact PostS.le (r := .retM ls ks s2) p le1
        | brk s2 => rw [eb] at p; exact fun σ3 F3 H3 le3 G3 => p σ3 F3 H3 (le1.trans le3) G3
        | nx s2 => rw [eb] at p; exact fun σ3 F3 H3 le3 G3 => ⟨F3, s2, G3, PostS.le p (le1.trans le3)⟩
        | cnt s2 => rw [eb] at p; exact fun σ3 F3 H3 le3 G3 => ⟨F3, s2, G3, PostS.le p (le1.trans le3)⟩
theorem ss_while {n : Nat} {t : TM} {body : SM} {c : Expr} {bs : List Stmt} {pos : Pos} (hp : PassesOwn (model X.prog X.w) X.A X.env X.xe) (hc : ST cA X t c) (hb : SSs cA X body bs) : SS cA X (sWhile n t body) (.While c bs [] pos) :=
  ⟨fun B W tk => (ps_while hp (hc.run B W tk) (hb.run B W tk)).of fun _ _ _ h => while_imp h⟩
end whiles

/-! ### enumerate -/
def enumD : Nat → List D → List D
  | _, [] => []
  | i, d :: ds => .tup [.int (i : Nat), d] :: enumD (i + 1) ds
theorem enumD_get : ∀ {ds : List D} {i j : Nat} {d : D}, (enumD j ds)[i]? = some d → ∃ e, ds[i]? = some e ∧ d = .tup [.int ((j + i : Nat) : Int), e]
  | [], i, j, d, h => by simp [enumD] at h
  | e :: ds, 0, j, d, h => by simp [enumD] at h; exact ⟨e, rfl, h.symm⟩
  | e :: ds, i + 1, j, d, h => by
    obtain ⟨e', h1, h2⟩ := enumD_get (ds := ds) (i := i) (j := j + 1) (d := d) (by simpa [enumD] using h)
    exact ⟨e', by simpa using h1, by rw [h2, show j + 1 + i = j + (i + 1) by omega]⟩
theorem enumD_len : ∀ {ds : List D} {j : Nat}, (enumD j ds).length = ds.length
  | [], _ => rfl
  | d :: ds, j => by simp [enumD, enumD_len (ds := ds)]
/-- enumerate(e), e no list of one's own (or frozen by the call) -/
def iEnumM (m : EM) : IM := fun sl => match eV m sl with
  | .ok (.v d) sl' => (match d with
    | .lst ds => .ok (enumD 0 ds) none sl'
    | .kst ds => .ok (enumD 0 ds) none sl'
    | _ => .bad)
  | .ok _ _ => .bad
  | .err c ns vs sl' => .err c ns vs sl'
  | .bad => .bad
section enum
variable {cA : Nat → Addr} {X : Cx} {g : G0} {B : Base} {W : WX} {F F' H H' : Hp} {σ : St} {sl sl' : List Slot} {Q : VK}
theorem walk_enum {J : It} {F1 : Hp} {ds : List D} {a : Addr} {xs : List V} (hJ : J = Ite g.K a) (h : SqL g.K F1 a xs) (r : Reps g F1 xs ds) : WalkC g J F1 (enumD 0 ds) none σ := by
  subst hJ
  intro B _ i F H σ' sl G le _
  have hs := le_l (le.trans G.sub) h
  refine ⟨fun d e => ?_, fun e => ⟨xs, hs, by rw [enumD_len] at e; rw [r.length, e]; exact Nat.le_refl _⟩⟩
  obtain ⟨e', h1, h2⟩ := enumD_get e
  obtain ⟨x, hx, rx⟩ := r.getD' h1
  refine ⟨⟨xs, x, hs, hx⟩, fun y H' ⟨T, x', e1, nT, e2, e3⟩ => ?_⟩
  have z := e3 xs hs
  rw [hx] at z; cases z
  subst e1; subst e2; subst h2
  have xt : Ext F H (upd F T (.tup [.int (i : Nat), x])) (upd H T (.tup [.int (i : Nat), x])) := Ext.frozen G.sub nT
  refine ⟨_, xt, .tup (SqT.of upd_same) ?_⟩
  rw [Nat.zero_add]
  exact .cons (.int _) (.one ((rx.mono le).mono xt.f))
theorem iEnum_imp {m : EM} {R : It → Hp → Prop} (h : ∃ F sl, Good g B F H σ sl ∧ PostI g B W F σ R (iEnumM m sl)) : iEnum g.K (tCons (tE g B W m) tNil) σ H R := by
  obtain ⟨F, sl, G, p⟩ := h
  refine ⟨F, sl, G, ?_⟩
  unfold iEnumM eV at p
  cases e : m sl with
  | bad => rw [e] at p; exact p
  | err c ns vs sl' => rw [e] at p; exact p
  | ok a sl' =>
    rw [e] at p
    intro v F1 H1 le1 G1 x
    obtain ⟨F2, le2, G2, x2⟩ := x.frz G1
    dsimp only at p
    cases ea : frz a with
    | s j => rw [ea] at p; exact p.elim
    | n d => rw [ea] at p; exact p.elim
    | t _ _ => rw [ea] at p; exact p.elim
    | p _ _ => rw [ea] at p; exact p.elim
    | v d =>
      rw [ea] at p x2
      dsimp only at p
      cases d with
      | lst ds =>
        cases x2 with
        | lst hs r => exact ⟨_, _, rfl, SqL.of (G2.sub _ _ hs), p _ F2 H1 (le1.trans le2) G2 (walk_enum rfl (SqL.of hs) r)⟩
      | kst ds =>
        cases x2 with
        | kst hs r => exact ⟨_, _, rfl, le_l G2.sub hs, p _ F2 H1 (le1.trans le2) G2 (walk_enum rfl hs r)⟩
      | _ => exact p.elim
theorem si_enum {m : EM} {e : Expr} {p pos tpos : Pos} {elts : List Expr} {kk : Nat} (hg : L2.Gl X "enumerate") (hm : X.mg "enumerate" = none) (ha : SE cA X m e) (h1 : starEach [e] X.env = (false, eval e X.env) :: starEach [] X.env := by rfl) (hs : starEach [e] X.env = [(false, eval e X.env)] := by rfl) :
    SI cA X (iEnumM m) (.Tuple elts kk tpos) (.Call (.Name "enumerate" p) [e] [] pos) :=
  ⟨fun B W tk => ⟨_, pi_enum hg hm (pa_cons (ha.run B W tk) pa_nil h1) hs, fun _ _ _ h => iEnum_imp h⟩⟩
end enum
end Za
end
section
set_option Elab.async false
set_option linter.all false
set_option maxRecDepth 100000
set_option maxHeartbeats 2000000
namespace Za
open PySem PySem.Spec PyProof.Rows L2

/-! ### an own error: its __init__ with one field, raise -/
def spI (K : PySem.W.Frag) (C : Addr) (f : Str) : Sp := fun vs H Q _ => ∃ (a : Addr) (y : V), vs = [.ref a, y] ∧ H a = some (exo a C none) ∧
  ∀ dx, H dx = none → dx ≠ a → Q .non (upd (upd H dx (exd dx [(f, y)])) a (exo a C (some dx)))
theorem fn_init {P : Program} {w : World} {K : PySem.W.Frag} {mg : Str → Option Value} {base : Heap} {x qual : Str} {st : Stmt} {fI C : Addr} {fd : FuncData} {N ps : List Str} {k : Nat} {f : Str} (F : Fun K x qual st fI fd) (S : FnScope N ps (defScope st)) (hp : ps.length = 2)
    (T : OexC K C) (hno : PySem.W.findIn K (.ref C) f = some none)
    (hb : ∀ (cdv : Value) (A : Around) (outer : List Env) (s : Shared) (H : Hp) (E : XK), PSs (cxOf (L2.CX P w) P w K mg base N qual (defScope st) fI cdv A outer s H E) (defBody st) (tSeq (tOst K f (tVar 0) (tVar 1)) tNext)) :
    FnOk P w K mg base (L2.CX P w) (k + 1) fI fd ps (spI K C f) := by
  refine F.okX S (fun vs H Q E ⟨a, y, e, _⟩ => by rw [e, hp]; rfl) fun cdv A outer s H vs Q E hr ⟨a, y, e, ha, q⟩ => ⟨_, hb cdv A outer s H E, ?_⟩
  subst e
  refine ⟨y, rfl, .ref a, rfl, a, C, rfl, T, hno, .inl ⟨ha, fun dx n ne => q dx n ne⟩⟩

def sRaise (c : Nat) (f : Str) (m : EM) : SM := fun sl => match m sl with
  | .ok (.v d) sl' => .err c [f] [d] sl'
  | .err c' ns vs sl' => .err c' ns vs sl'
  | _ => .bad
section
variable {g : G0} {B : Base} {W : WX} {σ : St} {H : Hp}
theorem raise_imp {c : Nat} {f : Str} {m : EM} {D : Ends} {K : PySem.W.Frag} (h : tS g B W (sRaise c f m) D σ H) :
    tMkO (g.cA c) (spI K (g.cA c) f) [] (tCons (tE g B W m) tNil) σ H (fun cls d H' => W cls d σ H') := by
  obtain ⟨F, sl, G, p⟩ := h
  refine ⟨F, sl, G, ?_⟩
  simp only [sRaise] at p
  cases e : m sl with
  | bad => simp only [e] at p; exact p
  | err c' ns vs sl' => simp only [e] at p; exact p σ
  | ok a sl' =>
    simp only [e] at p
    cases a with
    | s i => exact p.elim
    | n d => exact p.elim
    | t _ _ => exact p.elim
    | p _ _ => exact p.elim
    | v d =>
      intro v F' H' le G' r
      refine ⟨by show 1 ≤ 1000; omega, fun a na => ⟨a, v, rfl, upd_same, fun dx hd ne => ⟨rfl, dx, [(f, v)], upd_same, ?_, ?_, ?_⟩⟩⟩
      · rw [upd_ne ne, upd_same]
      · rw [upd_ne ne] at hd; exact hd
      · have hd' : H' dx = none := by rw [upd_ne ne] at hd; exact hd
        have e1 : upd (del (upd (upd (upd H' a (exo a (g.cA c) none)) dx (exd dx [(f, v)])) a (exo a (g.cA c) (some dx))) a) dx (.xd [(f, v)]) = upd H' dx (.xd [(f, v)]) := by
          funext b
          by_cases hb : b = dx
          · rw [hb, upd_same, upd_same]
          · rw [upd_ne hb, upd_ne hb]
            by_cases ha : b = a
            · rw [ha, del_same, na]
            · rw [del_ne ha, upd_ne ha, upd_ne hb, upd_ne ha]
        rw [e1]
        have X := Ext.laid (o := HO.xd [(f, v)]) G'.sub hd'
        exact p σ dx F' (upd H' dx (.xd [(f, v)])) le (G'.ext' X) ⟨[(f, v)], upd_same, rfl, .cons r .nil⟩
end
theorem ss_raise {cA : Nat → Addr} {X : Cx} {c k : Nat} {f x : Str} {m : EM} {fI : Addr} {fd : FuncData} {ps : List Str} {e : Expr} {p pos pos2 : Pos} (hc : X.calm = true) (T : OexC X.K (cA c))
    (iC : PySem.W.findIn X.K (.ref (cA c)) "__init__" = some (some (.ref fI))) (tI : PySem.W.typeIn X.K (.ref fI) = some (.type "function")) (F1 : FnOk X.prog X.w X.K X.mg X.base (L2.CX X.prog X.w) k fI fd ps (spI X.K (cA c) f))
    (hr : Room (k + 1) X.A) (hb : Binds X.K fd ps []) (hg : L2.Gl X x) (hm : X.mg x = some (.ref (cA c))) (he : SE cA X m e)
    (hdb : (x == ("__debug__" : Str)) = false := by decide) (hs : starEach (e :: []) X.env = (false, eval e X.env) :: starEach [] X.env := by rfl) (hpl : (backTo pos (starEach [] X.env)).any (·.1) = false := by rfl) :
    SS cA X (sRaise c f (eV m)) (.Raise (some (.Call (.Name x p) [e] [] pos)) none pos2) :=
  ⟨fun B W tk => (ps_raise hc tk.t (pmk_oex T iC tI F1 hr hb .nil (passes_call tk.t fun _ _ _ _ h => h.elim) hg hm (pa_cons (he.run B W tk) pa_nil hs) hdb hs hpl)).of fun D σ H h => by
    have z := raise_imp (g := gx X cA) (K := X.K) h
    obtain ⟨F, sl, G, p⟩ := z
    exact (tE_eV ⟨F, sl, G, p⟩ : tE (gx X cA) B W m σ H _)⟩

/-! ### the caught error's field, its class -/
def eXf (i : Nat) (f : Str) (cs : List Nat) : EM := fun sl => match sl[i]? with
  | some (.exc c ns vs) => if c ∈ cs then (match (ns.zip vs).lookup f with
    | some d => .ok (.v d) sl
    | none => .bad) else .bad
  | _ => .bad
theorem lookup_reps {g : G0} {F : Hp} {f : Str} {d : D} : ∀ {fs : List (Str × V)} {vs : List D}, Reps g F (fs.map (·.2)) vs → ((fs.map (·.1)).zip vs).lookup f = some d → ∃ v, fs.lookup f = some v ∧ Rep g F v d := by
  intro fs
  induction fs with
  | nil => intro vs r e; cases e
  | cons p fs ih =>
    intro vs r e
    cases r with
    | cons h r =>
      obtain ⟨n, v⟩ := p
      simp only [List.map_cons, List.zip_cons_cons, List.lookup_cons] at e ⊢
      by_cases hn : f = n
      · have q : (f == n) = true := by simpa using hn
        rw [q] at e ⊢
        cases e
        exact ⟨v, rfl, h⟩
      · have q : (f == n) = false := by simpa using hn
        rw [q] at e ⊢
        exact ih r e
theorem se_xf {cA : Nat → Addr} {X : Cx} {a : Addr} {oe : Obj} {pn : List (Addr × Obj)} {x f : Str} {cs : List Nat} {p pos : Pos} (i : Nat) (hf : ∃ vs, oe.data = .fields vs) (T : ∀ c ∈ cs, XfC X.K (cA c)) (hno : ∀ c ∈ cs, PySem.W.findIn X.K (.ref (cA c)) f = some none)
    (hN : X.N[i]? = some x := by rfl) (hv : Vis X.env.scope x := by first | exact Or.inl rfl | exact Or.inr (Or.inl rfl) | exact Or.inr (Or.inr rfl)) (hd : (x == ("__debug__" : Str)) = false := by decide) (hcd : (x == ("__classdict__" : Str)) = false := by decide)
    (hb : attributeBase (.Name x p) f X.env (eval (.Name x p) X.env) = eval (.Name x p) X.env := by rfl) :
    SE cA (X.suite a ((a, oe) :: pn)) (eXf i f cs) (.Attribute (.Name x p) f pos) := by
  refine ⟨fun B W tk => ⟨fun pins s σ H Q I h => ?_⟩⟩
  obtain ⟨F, sl, G, q⟩ := h
  simp only [eXf] at q
  cases e : sl[i]? with
  | none => simp only [e] at q; exact q.elim
  | some s0 =>
    simp only [e] at q
    cases s0 with
    | exc c ns vs =>
      simp only at q
      by_cases hc : c ∈ cs
      · rw [if_pos hc] at q
        cases hl : (ns.zip vs).lookup f with
        | none => simp only [hl] at q; exact q.elim
        | some d =>
          simp only [hl] at q
          obtain ⟨a', oe', dd, h1, h2, h3, h4, fs, h5, h6, h7⟩ := G.slot i _ e
          obtain ⟨_, hh⟩ := tk.b _ h1
          have hh' : (a, oe) = (a', oe') := Option.some.inj hh
          obtain ⟨rfl, rfl⟩ := Prod.mk.inj hh'
          subst h6
          obtain ⟨v, hv1, hv2⟩ := lookup_reps h7 hl
          exact (pe_xf (X := X) (T c hc) (hno c hc) (cls := oe.cls) (d := oe.dict) ⟨rfl, rfl⟩ hf (pe_var (X := X.suite a ((a, oe) :: pn)) hN hv hd hcd) hb).run pins s σ H Q I
            ⟨.ref a, h2, rfl, h3, dd, fs, v, h4, h5, hv1, q v F H (.refl _) G hv2⟩
      · rw [if_neg hc] at q; exact q.elim
    | _ => exact q.elim

/-- isinstance(n, C): what each class answers -/
def eXis (i : Nat) (ans : List (Nat × Bool)) : EM := fun sl => match sl[i]? with
  | some (.exc c _ _) => (match ans.lookup c with
    | some b => .ok (.v (.bl b)) sl
    | none => .bad)
  | _ => .bad
structure XisC (K : PySem.W.Frag) (C : Addr) : Prop where
  cl : (PySem.W.clsIn K C).isSome = true
  ga : PySem.W.findIn K (.ref C) "__getattribute__" = some (some (.builtin "BaseException.__getattribute__"))
  gg : PySem.W.findIn K (.ref C) "__getattr__" = some none
  ex : PySem.W.subIn K (.ref C) (.type "BaseException") = some true
  kc : PySem.W.findIn K (.ref C) "__class__" = some (some (.builtin "object.__class__"))
  ob : PySem.W.mroIn K C (.type "object") = some true
structure XisK (K : PySem.W.Frag) : Prop where
  kg : PySem.W.specialIn K (.builtin "object.__class__") "__get__" = some (some (.builtin "getset_descriptor.__get__"))
  kt : PySem.W.takesIn K (.builtin "object.__class__") = some true
theorem call_isX {X : Cx} {a D dd : Addr} {oe : Obj} {pn : List (Addr × Obj)} {fs : List (Str × V)} {cv : Value} {c : V} {b : Bool} (hf : ∃ vs, oe.data = .fields vs) (T : XisC X.K D) (TK : XisK X.K) (h1 : oe.cls = .ref D) (h2 : oe.dict = some dd) (hcv : ∀ u, RelV c u → u = cv) (hk : PySem.W.kitOne X.K (.ref D) cv = some b) :
    CallR (X.suite a ((a, oe) :: pn)) (.builtin "isinstance") (fun xs H Q => xs = [.ref a, c] ∧ H dd = some (.xd fs) ∧ Q (.bl b) H) := by
  intro pins s σ H xs us Q I r h
  obtain ⟨rfl, e, q⟩ := h
  cases r with
  | cons rx rr =>
    cases rr with
    | cons rt rr =>
      cases rr
      cases rx
      have ec := hcv _ rt
      subst ec
      obtain ⟨hget, _⟩ := I.pin (a, oe) (List.mem_append.mpr (.inl List.mem_cons_self))
      obtain ⟨vs, hv⟩ := hf
      have hx : ObjOk X.prog X.w H s.heap dd (.xd fs) := I.hok dd _ e
      obtain ⟨mA, hns, hr⟩ := hx
      obtain ⟨od, ho, _⟩ := lookIn_ns hns
      have J : PySem.W.InstAt s.heap a oe D (some od) := ⟨hget, h1, by unfold PySem.W.notCls; rw [hv] <;> rfl, by rw [h2]; exact ho⟩
      exact PySem.W.kia_one (PySem.W.kitx_exc T.cl T.ga T.gg T.ex T.kc TK.kg TK.kt T.ob) I.kIn J hk (fun z => nomatch z) fun tk => ⟨.bl b, H, I.kept (t' := tk) fun _ _ z => z, rfl, q⟩
theorem se_isX {cA : Nat → Addr} {X : Cx} {a : Addr} {oe : Obj} {pn : List (Addr × Obj)} {x : Str} {ans : List (Nat × Bool)} {p p1 pos : Pos} {ce : Expr} {cv : Value} {c : V} (i : Nat) (hf : ∃ vs, oe.data = .fields vs) (TK : XisK X.K)
    (T : ∀ q ∈ ans, XisC X.K (cA q.1) ∧ PySem.W.kitOne X.K (.ref (cA q.1)) cv = some q.2) (hc : PE (X.suite a ((a, oe) :: pn)) ce (tC c)) (hcv : ∀ u, RelV c u → u = cv)
    (hg : L2.Gl X "isinstance") (hm : X.mg "isinstance" = none) (hbl : bootBuiltins "isinstance" = some (.builtin "isinstance"))
    (hN : X.N[i]? = some x := by rfl) (hv : Vis X.env.scope x := by first | exact Or.inl rfl | exact Or.inr (Or.inl rfl) | exact Or.inr (Or.inr rfl)) (hd : (x == ("__debug__" : Str)) = false := by decide) (hcd : (x == ("__classdict__" : Str)) = false := by decide)
    (hs : starEach [.Name x p1, ce] X.env = (false, eval (.Name x p1) X.env) :: starEach [ce] X.env := by rfl) (hs2 : starEach [ce] X.env = (false, eval ce X.env) :: starEach [] X.env := by rfl) (hpl : (backTo pos (starEach [ce] X.env)).any (·.1) = false := by rfl) :
    SE cA (X.suite a ((a, oe) :: pn)) (eXis i ans) (.Call (.Name "isinstance" p) [.Name x p1, ce] [] pos) := by
  refine ⟨fun B W tk => ⟨fun pins s σ H Q I h => ?_⟩⟩
  obtain ⟨F, sl, G, q⟩ := h
  simp only [eXis] at q
  cases e : sl[i]? with
  | none => simp only [e] at q; exact q.elim
  | some s0 =>
    simp only [e] at q
    cases s0 with
    | exc cn ns vs =>
      simp only at q
      cases hl : ans.lookup cn with
      | none => simp only [hl] at q; exact q.elim
      | some b =>
        simp only [hl] at q
        obtain ⟨a', oe', dd, h1, h2, h3, h4, fs, h5, h6, h7⟩ := G.slot i _ e
        obtain ⟨_, hh⟩ := tk.b _ h1
        have hh' : (a, oe) = (a', oe') := Option.some.inj hh
        obtain ⟨rfl, rfl⟩ := Prod.mk.inj hh'
        have mem : (cn, b) ∈ ans := by
          have look : ∀ {l : List (Nat × Bool)}, l.lookup cn = some b → (cn, b) ∈ l := by
            intro l
            induction l with
            | nil => intro h; cases h
            | cons q l ih =>
              intro h
              obtain ⟨n, b'⟩ := q
              rw [List.lookup_cons] at h
              by_cases hn : cn = n
              · have z : (cn == n) = true := by simpa using hn
                rw [z] at h
                cases h
                rw [hn]; exact List.mem_cons_self
              · have z : (cn == n) = false := by simpa using hn
                rw [z] at h
                exact List.mem_cons_of_mem _ (ih h)
          exact look hl
        obtain ⟨T1, T2⟩ := T _ mem
        have PA2 : PA (X.suite a ((a, oe) :: pn)) [.Name x p1, ce] (tCons (tVar i) (tCons (tC c) tNil)) := pa_cons (pe_var (X := X.suite a ((a, oe) :: pn)) hN hv hd hcd) (pa_cons hc pa_nil hs2) hs
        exact (pe_callB (call_isX hf T1 TK h3 h4 hcv T2) hg hm hbl PA2 (by decide) (by decide) hs hpl).run pins s σ H Q I
          ⟨.ref a, h2, rfl, h5, q (.bl b) F H (.refl _) G (.bl _)⟩
    | _ => exact q.elim
end Za
end
section
set_option Elab.async false
set_option linter.all false
set_option maxRecDepth 100000
set_option maxHeartbeats 2000000
namespace Za
open PySem PySem.Spec PyProof.Rows L2

/-! ### try with several clauses, each with or without a name -/
abbrev TSU := Addr → Value → Option Addr → TS
def endSet (i : Nat) (D : Ends) : Ends := { nx := fun σ' H' => D.nx (σ'.set i none) H', rt := D.rt, bk := fun σ' H' => D.bk (σ'.set i none) H', ct := fun σ' H' => D.ct (σ'.set i none) H' }
def suiteW (i : Option Nat) (ts : TSU) (D : Ends) (a : Addr) (cls : Value) (d : Option Addr) (σ : St) (H : Hp) : Prop :=
  match i with
  | none => ts a cls d D σ H
  | some i => ts a cls d (endSet i D) (σ.set i (some (.ref a))) H
def wHds (K : PySem.W.Frag) (Wout : WX) (D : Ends) : List (Value × Option Nat × TSU) → WX
  | [] => Wout
  | (c, i, ts) :: r => fun cls d σ H => ∃ b, PySem.W.exmOne K cls c = some b ∧ (b = true → ∀ a, H a = none → suiteW i ts D a cls d σ H) ∧ (b = false → wHds K Wout D r cls d σ H)
def NameAt (X : Cx) (n : Option Str) (i : Option Nat) : Prop := match n, i with
  | none, none => True
  | some n, some i => X.N[i]? = some n ∧ X.env.kindOf n = some .local
  | _, _ => False
inductive Hds (X : Cx) : List ExceptHandler → List (Value × Option Nat × TSU) → Prop
  | nil : Hds X [] []
  | cons {x : Str} {c : Value} {n : Option Str} {i : Option Nat} {ts : TSU} {b₀ : Stmt} {suite : List Stmt} {np pos' : Pos} {hds : List ExceptHandler} {l : List (Value × Option Nat × TSU)} (hc : Names X x c) (hn : NameAt X n i)
      (hsu : ∀ (a : Addr) (oe : Obj) (cls : Value) (d : Option Addr) (pn : List (Addr × Obj)), Zc cls d oe → (∃ vs, oe.data = .fields vs) → PSs (X.suite a ((a, oe) :: pn)) (b₀ :: suite) (ts a cls d)) (r : Hds X hds l) :
      Hds X (.ExceptHandler (some (.Name x np)) n (b₀ :: suite) pos' :: hds) ((c, i, ts) :: l)
section
variable {X : Cx} {pins : List (Addr × Obj)} {D : Ends} {l : List (Value × Option Nat × TSU)} {Wout : WX}
/-- what the clauses do: a flies, at B -/
theorem hds_run {a : Addr} {B : Heap} {sI s' : Shared} {σ : St} {H : Hp} {cls : Value} {d : Option Addr} {h3 : Heap} {hds : List ExceptHandler} (hs : X.stack = X.env :: X.outer) (hf : X.env.frame = some X.env.locals) (hN : X.N.Nodup) (ok : X.Ok) (tk : Takes X Wout)
    (J : Inv X pins σ H sI) (nb : ∀ b o, sI.heap.get? b = some o → b ∉ frs X.stack → B.get? b = some o) (fl : HandSPX.FlyingZ B (X.env :: X.outer) a (Zc cls d) h3) (up : sI.heap.UpToSlots h3) (na : H a = none) (os : s'.os = sI.os) (ag : AllBare s'.gens)
    (hh : Hds X hds l) (w : wHds X.K Wout D l cls d σ H) : wpAny (model X.prog X.w) X.A (handleBy (.ref a) X.env hds) (SP X pins D) X.xe { s' with heap := h3 } := by
  induction hh with
  | nil =>
    refine wpAny_handleBy_nil ?_
    obtain ⟨k1, k2, k3, oe, vs, T, oT, ts', he, hz, hd, h1, hr⟩ := id fl
    unfold PySem.passOn
    refine wpAny_bind (wpAny_field he hd h1 ?_)
    rw [if_neg (show ¬ ((Value.ref T == Value.none) = true) from by simp)]
    have fin : wpAny (model X.prog X.w) X.A (setFlight (.ref a) X.env.frame) (fun _ s4 => wpAny (model X.prog X.w) X.A (throw (.ref a) : Sem Flow) (SP X pins D) X.xe s4) X.xe { s' with heap := h3 } := by
      rw [hf]
      refine HandSPX.setFlight_upZ fl fun h4 hh4 up4 => wpAny_throw (tk _ _ ?_)
      exact ⟨a, B, sI, pins, σ, H, cls, d, rfl, J, nb, up.trans up4, .inr (.inr (by rw [hs]; exact hh4)), na, os, ag, w⟩
    first
      | exact wpAny_bind (wpAny_pure (wpAny_bind fin))
      | exact wpAny_bind fin
  | @cons x c n i ts b₀ suite np pos' hds l hc hn hsu r ih =>
    obtain ⟨b, hb, hyes, hno⟩ := w
    have land : ∀ {h : Heap}, HandSPX.FlyingZ B (X.env :: X.outer) a (Zc cls d) h → sI.heap.UpToSlots h → ∃ oe, Zc cls d oe ∧ (∃ vs, oe.data = .fields vs) ∧ h.get? a = some oe ∧ Inv (X.suite a ((a, oe) :: (X.pn ++ pins))) [] σ H { s' with heap := h } := fun {h} f u => by
      have J' : Inv X pins σ H { s' with heap := h } := J.landed nb f.1 u os ag
      obtain ⟨oe, vs, he, hz, hd⟩ := f.there
      have nfr : a ∉ frs (X.env :: X.outer) := fun hm => by
        obtain ⟨_, o', e', hnf⟩ := f.2.2.1.mem hm
        rw [he] at e'; cases e'
        exact hnf _ hd
      exact ⟨oe, hz, ⟨vs, hd⟩, he, J'.suite he hd na (fun z => nfr (List.mem_filterMap.mpr ⟨X.env, List.mem_cons_self, by rw [hf, z]⟩)) fun hm => by
        obtain ⟨e, he, q⟩ := List.mem_filterMap.mp hm
        exact nfr (List.mem_filterMap.mpr ⟨e, List.mem_cons_of_mem _ he, q⟩)⟩
    obtain ⟨oe3, hz3, _, he3, S3⟩ := land fl up
    refine wpAny_handleBy_cons (codeAny_handlers_test ?_) (by intro q; cases q)
    have LT : PySem.W.Looks (model X.prog X.w) h3 (typeOf (.ref a)) cls := fun A Q E s k q => wpAny_typeOf_ref (k _ _ he3) (by rw [hz3.1]; exact q)
    have LM := PySem.W.exm_one (M := model X.prog X.w) S3.kIn LT hb
    have test : ∀ {Q : Value → Shared → Prop} {E : Value → Shared → Prop}, Q c { s' with heap := h3 } → wpAny (model X.prog X.w) (X.A.mark (some (.ref a))) (eval (.Name x np) X.env) Q E { s' with heap := h3 } := fun {Q E} q => by
      obtain ⟨hg, hdbg, hm | ⟨hm, hv, hnn⟩⟩ := hc
      · exact ld_glob (X := X.suite a ((a, oe3) :: (X.pn ++ pins))) S3 hg hm q hdbg
      · exact ld_blt (X := X.suite a ((a, oe3) :: (X.pn ++ pins))) S3 hg hm hv q hnn hdbg
    refine test (LM.here ?_)
    cases b with
    | false => exact ih (hno rfl)
    | true =>
      have hy := hyes rfl a na
      cases n with
      | none =>
        cases i with
        | some i => exact hn.elim
        | none =>
          refine codeAny_handlers_suite ?_
          refine HandSPX.lands_againZ fl fun h4 fl4 up4 => ?_
          obtain ⟨oe4, hz4, hd4, _, S4⟩ := land fl4 (up.trans up4)
          refine wpAny_mono ((hsu a oe4 cls d (X.pn ++ pins) hz4 hd4).run [] _ _ H _ S4 hy) (fun f s6 hsp => ?_) (fun _ _ z => False.elim z)
          cases f with
          | ret u => obtain ⟨v6, σ6, H6, S6, r6, q6⟩ := hsp; exact ⟨_, _, _, S6.unsuite ok, r6, q6⟩
          | next => obtain ⟨σ6, H6, S6, q6⟩ := hsp; exact ⟨_, _, S6.unsuite ok, q6⟩
          | brk => obtain ⟨σ6, H6, S6, q6⟩ := hsp; exact ⟨_, _, S6.unsuite ok, q6⟩
          | cont => obtain ⟨σ6, H6, S6, q6⟩ := hsp; exact ⟨_, _, S6.unsuite ok, q6⟩
      | some n =>
        cases i with
        | none => exact hn.elim
        | some i =>
          obtain ⟨hi, hln⟩ := hn
          refine codeAny_handlers_suite_as ?_
          refine HandSPX.lands_againZ fl fun h4 fl4 up4 => ?_
          obtain ⟨oe4, hz4, hd4, _, S4⟩ := land fl4 (up.trans up4)
          refine store_ok (X := X.suite a ((a, oe4) :: (X.pn ++ pins))) (v := .ref a) S4 hN hi (.inl hln) rfl (fun s5 S5 => ?_) (.inr hln)
          refine wpAny_mono ((hsu a oe4 cls d (X.pn ++ pins) hz4 hd4).run [] s5 _ H _ S5 hy) (fun f s6 hsp => ?_) (fun _ _ z => False.elim z)
          cases f with
          | ret u => obtain ⟨v6, σ6, H6, S6, r6, q6⟩ := hsp; exact gone_ok (S6.unsuite ok) hN hi hln fun s7 J7 => ⟨_, _, _, J7, r6, q6⟩
          | next => obtain ⟨σ6, H6, S6, q6⟩ := hsp; exact gone_ok (S6.unsuite ok) hN hi hln fun s7 J7 => ⟨_, _, J7, q6⟩
          | brk => obtain ⟨σ6, H6, S6, q6⟩ := hsp; exact gone_ok (S6.unsuite ok) hN hi hln fun s7 J7 => ⟨_, _, J7, q6⟩
          | cont => obtain ⟨σ6, H6, S6, q6⟩ := hsp; exact gone_ok (S6.unsuite ok) hN hi hln fun s7 J7 => ⟨_, _, J7, q6⟩
theorem ps_tryH {body : List Stmt} {h₀ : ExceptHandler} {hds : List ExceptHandler} {pos : Pos} {tb : WX → TS} (hs : X.stack = X.env :: X.outer) (hf : X.env.frame = some X.env.locals) (hN : X.N.Nodup) (tk : Takes X Wout)
    (hb : ∀ (W : WX) (pn : List (Addr × Obj)) (xe : Value → Shared → Prop), Takes (X.tr pn xe) W → PassesOwn (model X.prog X.w) X.A X.env xe → PSs (X.tr pn xe) body (tb W))
    (hh : Hds X (h₀ :: hds) l) : PS X (.Try body (h₀ :: hds) [] [] pos) (fun D σ H => tb (wHds X.K Wout D l) D σ H) := by
  refine ⟨fun pins s σ H D I h => ?_⟩
  have ok := I.ok
  have hfr : X.A.frames = some (X.env :: X.outer) := by rw [ok.frames, hs]
  refine wpAny_Try_except ?_
  refine wpAny_mono ((hb (wHds X.K Wout D l) (X.pn ++ pins) (fun e s₁ => wpAny (model X.prog X.w) X.A (noteFrame e X.env) (fun _ s₂ => wpAny (model X.prog X.w) X.A (setFlight e none) (fun _ s₃ =>
    wpAny (model X.prog X.w) X.A (handleBy e X.env (h₀ :: hds)) (SP X pins D) X.xe s₃) X.xe s₂) X.xe s₁) (fun u s' xx => ?_) PassesOwn.looking).run [] s σ H D (I.toTry _) h) (fun f s1 hsp => ?_) (fun e s1 he => he)
  · obtain ⟨a, B, sI, pins', σ', H', cls, d, rfl, J', nb, up, sky, na, os, ag, w⟩ := xx
    have sky' : Sky B (X.env :: X.outer) a (Zc cls d) X.env.locals s'.heap := by rw [← hs]; exact sky
    show wpAny (model X.prog X.w) X.A (noteFrame (.ref a) X.env) _ _ _
    exact Sky.land Zc.steady hfr hf sky' fun h3 fl3 up3 => hds_run hs hf hN ok tk (J'.ofTry ok) nb fl3 (up.trans up3) na os ag hh w
  · cases f with
    | next => obtain ⟨σ', H', J', q⟩ := hsp; exact wpAny_execs_nil ⟨σ', H', J'.ofTry ok, q⟩
    | brk => obtain ⟨σ', H', J', q⟩ := hsp; exact ⟨σ', H', J'.ofTry ok, q⟩
    | cont => obtain ⟨σ', H', J', q⟩ := hsp; exact ⟨σ', H', J'.ofTry ok, q⟩
    | ret u => obtain ⟨v, σ', H', J', r, q⟩ := hsp; exact ⟨v, σ', H', J'.ofTry ok, r, q⟩
end

structure Hd where
  /-- the classes that are asked about, the answer, the name's slot, the suite -/
  ks : List (Nat × Bool)
  i : Option Nat
  m : SM
def isExc : Slot → Bool
  | .exc _ _ _ => true
  | _ => false
def noExc (sl : List Slot) : Bool := sl.all fun s => !isExc s
/-- the name of the clause goes -/
def dropN (i : Option Nat) (sl : List Slot) : List Slot := match i with
  | none => sl
  | some i => sl.set i .emp
def notS (i : Option Nat) : AV → Bool
  | .s j => match i with
    | none => true
    | some i => i != j
  | .p j _ => match i with
    | none => true
    | some i => i != j
  | _ => true
def endH (i : Option Nat) : SR → SR
  | .nx sl => if noExc (dropN i sl) then .nx (dropN i sl) else .bad
  | .brk sl => if noExc (dropN i sl) then .brk (dropN i sl) else .bad
  | .cnt sl => if noExc (dropN i sl) then .cnt (dropN i sl) else .bad
  | .ret a sl => if noExc (dropN i sl) && notS i a then .ret a (dropN i sl) else .bad
  | _ => .bad
def putX (i : Option Nat) (c : Nat) (ns : List Str) (vs : List D) (sl : List Slot) : Option (List Slot) := match i with
  | none => some sl
  | some i => if storable sl i then some (sl.set i (.exc c ns vs)) else none
def pickH : List Hd → Nat → List Str → List D → SM
  | [], c, ns, vs => fun sl => .err c ns vs sl
  | h :: r, c, ns, vs => fun sl => match h.ks.lookup c with
    | some true => (match putX h.i c ns vs sl with
      | some sl' => endH h.i (h.m sl')
      | none => .bad)
    | some false => pickH r c ns vs sl
    | none => .bad
def sTry (mb : SM) (hs : List Hd) : SM := fun sl => if noExc sl then (match mb sl with
  | .err c ns vs sl' => if noExc sl' then pickH hs c ns vs sl' else .bad
  | r => r) else .bad
section
variable {g : G0} {B : Base} {F H : Hp} {σ : St} {sl : List Slot} {e e' : Option (Addr × Obj)}
theorem noExc_at (h : noExc sl = true) {i : Nat} {c : Nat} {ns : List Str} {vs : List D} : sl[i]? ≠ some (.exc c ns vs) := fun q => by
  have z := List.all_eq_true.mp h _ (List.mem_of_getElem? q)
  cases z
theorem Good.exOf (n : noExc sl = true) (G : Good g B F H σ sl) : Good g { B with ex := e } F H σ sl :=
  ⟨G.sub, G.ext, G.new, G.keep, G.live, fun i s q => by
    have z := G.slot i s q
    cases s with
    | exc c ns vs => exact absurd q (noExc_at n)
    | emp => exact z
    | val d => exact z
    | own d => exact z
    | io d => exact z
    | lock b d => exact z
    | sh _ _ => exact z
    | al _ _ => trivial, G.apart, G.len, G.als⟩
theorem Good.exNo (G : Good g { B with ex := none } F H σ sl) : Good g B F H σ sl :=
  ⟨G.sub, G.ext, G.new, G.keep, G.live, fun i s q => by
    have z := G.slot i s q
    cases s with
    | exc c ns vs => obtain ⟨a, oe, dd, h1, _⟩ := z; cases h1
    | emp => exact z
    | val d => exact z
    | own d => exact z
    | io d => exact z
    | lock b d => exact z
    | sh _ _ => exact z
    | al _ _ => trivial, G.apart, G.len, G.als⟩
/-- the suite's end -/
theorem Good.dropExc {i : Option Nat} {c : Nat} {ns : List Str} {vs : List D} (hi : ∀ j, i = some j → j < sl.length) (G : Good g { B with ex := e } F H σ sl) (n : noExc (dropN i sl) = true) :
    Good g B F H (match i with | none => σ | some j => σ.set j none) (dropN i sl) := by
  cases i with
  | none =>
    refine ⟨G.sub, G.ext, G.new, G.keep, G.live, fun i s q => ?_, G.apart, G.len, G.als⟩
    have z := G.slot i s q
    cases s with
    | exc c ns vs => exact absurd q (noExc_at n)
    | emp => exact z
    | val d => exact z
    | own d => exact z
    | io d => exact z
    | lock b d => exact z
    | sh _ _ => exact z
    | al _ _ => trivial
  | some j =>
    have G1 := G.setEmp (i := j) (x := none) (hi j rfl)
    refine ⟨G1.sub, G1.ext, G1.new, G1.keep, G1.live, fun i s q => ?_, G1.apart, G1.len, G1.als⟩
    have z := G1.slot i s q
    cases s with
    | exc c ns vs => exact absurd q (noExc_at n)
    | emp => exact z
    | val d => exact z
    | own d => exact z
    | io d => exact z
    | lock b d => exact z
    | sh _ _ => exact z
    | al _ _ => trivial
end
section
variable {g : G0} {B : Base} {W : WX} {F H : Hp} {σ : St} {sl : List Slot}
def endD (i : Option Nat) (D : Ends) : Ends := match i with
  | none => D
  | some i => endSet i D
def gone (i : Option Nat) (σ : St) : St := match i with
  | none => σ
  | some j => σ.set j none
theorem Good.dropExc' {e : Option (Addr × Obj)} {i : Option Nat} (G : Good g { B with ex := e } F H σ sl) (n : noExc (dropN i sl) = true) : Good g B F H (gone i σ) (dropN i sl) := by
  cases i with
  | none => exact Good.dropExc (i := none) (c := 0) (ns := []) (vs := []) (fun j z => nomatch z) G n
  | some j =>
    by_cases hj : j < sl.length
    · exact Good.dropExc (i := some j) (c := 0) (ns := []) (vs := []) (fun k z => by cases z; exact hj) G n
    · have e1 : sl.set j .emp = sl := List.set_eq_of_length_le (by omega)
      have e2 : σ.set j none = σ := List.set_eq_of_length_le (by rw [G.len]; omega)
      show Good g B F H (σ.set j none) (sl.set j .emp)
      have n' : noExc (sl.set j .emp) = true := n
      rw [e1] at n' ⊢
      rw [e2]
      exact Good.dropExc (i := none) (c := 0) (ns := []) (vs := []) (fun j z => nomatch z) G n'
theorem mine_drop {i : Option Nat} {k : Nat} {b : Addr} (m : Mine F (gone i σ) (dropN i sl) k b) : Mine F σ sl k b := by
  cases i with
  | none => exact m
  | some j =>
    have m' : Mine F (σ.set j none) (sl.set j .emp) k b := m
    by_cases hk : k = j
    · subst hk
      rcases m' with ⟨⟨s, d, h1, h2⟩, _⟩ | ⟨ls, ks, q, xs, h1, _⟩
      · by_cases hl : k < sl.length
        · rw [List.getElem?_set_self hl] at h1; cases h1; cases h2
        · rw [List.getElem?_eq_none (by simpa using hl)] at h1; cases h1
      · by_cases hl : k < sl.length
        · rw [List.getElem?_set_self hl] at h1; cases h1
        · rw [List.getElem?_eq_none (by simpa using hl)] at h1; cases h1
    · exact m'.other hk
theorem AVOk.dropExc {e : Option (Addr × Obj)} {i : Option Nat} {a : AV} {v : V} (ha : notS i a = true) (x : AVOk g { B with ex := e } F H σ sl v a) : AVOk g B F H (gone i σ) (dropN i sl) v a := by
  cases a with
  | v d => exact x
  | n d => obtain ⟨q, e1, n1, n2, n3, c⟩ := x; exact ⟨q, e1, n1, n2, fun k b m => n3 k b (mine_drop m), c⟩
  | t ls ks => obtain ⟨q, xs, e1, h1, h0, K, w⟩ := x; exact ⟨q, xs, e1, h1, h0, K, fun a ka => ⟨(w a ka).1, fun k b m => (w a ka).2 k b (mine_drop m)⟩⟩
  | s k =>
    obtain ⟨b, e1, e2⟩ := x
    refine ⟨b, e1, ?_⟩
    cases i with
    | none => exact e2
    | some j =>
      have hk : j ≠ k := by simpa [notS] using ha
      show (σ.set j none)[k]? = _
      rw [List.getElem?_set_ne hk]
      exact e2
  | p k l =>
    obtain ⟨ls, q, xs, e2, r⟩ := x
    refine ⟨ls, q, xs, ?_, r⟩
    cases i with
    | none => exact e2
    | some j =>
      have hk : j ≠ k := by simpa [notS] using ha
      show (σ.set j none)[k]? = _
      rw [List.getElem?_set_ne hk]
      exact e2
theorem endH_ok {e : Option (Addr × Obj)} {i : Option Nat} {D : Ends} {r : SR} (p : PostS g B W F D (endH i r)) : PostS g { B with ex := e } (fun _ _ _ _ => False) F (endD i D) r := by
  have nx : ∀ {K : St → Hp → Prop} {sl : List Slot}, noExc (dropN i sl) = true → (∀ σ F' H', Le F F' → Good g B F' H' σ (dropN i sl) → K σ H') → ∀ σ F' H', Le F F' → Good g { B with ex := e } F' H' σ sl → K (gone i σ) H' := fun n q σ F' H' le G => q _ F' H' le (G.dropExc' n)
  cases r with
  | bad => exact p.elim
  | retM _ _ _ => exact p.elim
  | err c ns vs sl => exact p.elim
  | nx sl =>
    by_cases n : noExc (dropN i sl) = true
    · simp only [endH, if_pos n] at p
      intro σ F' H' le G
      have z := nx n p σ F' H' le G
      cases i <;> exact z
    · simp only [endH, if_neg n] at p; exact p.elim
  | brk sl =>
    by_cases n : noExc (dropN i sl) = true
    · simp only [endH, if_pos n] at p
      intro σ F' H' le G
      have z := nx n p σ F' H' le G
      cases i <;> exact z
    · simp only [endH, if_neg n] at p; exact p.elim
  | cnt sl =>
    by_cases n : noExc (dropN i sl) = true
    · simp only [endH, if_pos n] at p
      intro σ F' H' le G
      have z := nx n p σ F' H' le G
      cases i <;> exact z
    · simp only [endH, if_neg n] at p; exact p.elim
  | ret a sl =>
    by_cases n : (noExc (dropN i sl) && notS i a) = true
    · simp only [endH, if_pos n] at p
      obtain ⟨n1, n2⟩ := Bool.and_eq_true_iff.mp n
      intro v σ F' H' le G x
      have z := p v _ F' H' le (G.dropExc' n1) (x.dropExc n2)
      cases i <;> exact z
    · simp only [endH, if_neg n] at p; exact p.elim
end

def hdT (g : G0) (B : Base) (h : Hd) : TSU := fun a cls d D σ H => ∀ oe, Zc cls d oe → tS g { B with ex := some (a, oe) } (fun _ _ _ _ => False) h.m D σ H
/-- the clauses of the text -/
inductive HdsZ (cA : Nat → Addr) (X : Cx) : List ExceptHandler → List Hd → List Value → Prop
  | nil : HdsZ cA X [] [] []
  | cons {x : Str} {c : Value} {n : Option Str} {h : Hd} {b₀ : Stmt} {suite : List Stmt} {np pos' : Pos} {hds : List ExceptHandler} {l : List Hd} {cs : List Value} (hc : Names X x c) (hn : NameAt X n h.i)
      (hk : ∀ q ∈ h.ks, PySem.W.exmOne X.K (.ref (cA q.1)) c = some q.2)
      (hsu : ∀ (a : Addr) (oe : Obj) (pn : List (Addr × Obj)), (∃ vs, oe.data = .fields vs) → SSs cA (X.suite a ((a, oe) :: pn)) h.m (b₀ :: suite)) (r : HdsZ cA X hds l cs) :
      HdsZ cA X (.ExceptHandler (some (.Name x np)) n (b₀ :: suite) pos' :: hds) (h :: l) (c :: cs)
def hd0 (g : G0) (B : Base) : List Hd → List Value → List (Value × Option Nat × TSU)
  | h :: l, c :: cs => (c, h.i, hdT g B h) :: hd0 g B l cs
  | _, _ => []
theorem hdsZ_ok {cA : Nat → Addr} {X : Cx} {B : Base} {hds : List ExceptHandler} {l : List Hd} {cs : List Value} (h : HdsZ cA X hds l cs) : Hds X hds (hd0 (gx X cA) B l cs) := by
  induction h with
  | nil => exact .nil
  | cons hc hn hk hsu r ih => exact .cons hc hn (fun a oe cls d pn hz hf => ((hsu a oe pn hf).run { B with ex := some (a, oe) } (fun _ _ _ _ => False) ⟨fun p e => by cases e; exact ⟨rfl, rfl⟩, takes_none5⟩).of fun D σ H q => q oe hz) ih
theorem lookup_mem {c : Nat} {b : Bool} : ∀ {l : List (Nat × Bool)}, l.lookup c = some b → (c, b) ∈ l := by
  intro l
  induction l with
  | nil => intro h; cases h
  | cons q l ih =>
    intro h
    obtain ⟨n, b'⟩ := q
    rw [List.lookup_cons] at h
    by_cases hn : c = n
    · have z : (c == n) = true := by simpa using hn
      rw [z] at h
      cases h
      rw [hn]; exact List.mem_cons_self
    · have z : (c == n) = false := by simpa using hn
      rw [z] at h
      exact List.mem_cons_of_mem _ (ih h)
theorem pick_ok {cA : Nat → Addr} {X : Cx} {B : Base} {W : WX} {F : Hp} {c : Nat} {ns : List Str} {vs : List D} {sl : List Slot} {hds : List ExceptHandler} {l : List Hd} {cs : List Value} (h : HdsZ cA X hds l cs) (ne : noExc sl = true) {E : Ends}
    (p : PostS (gx X cA) B W F E (pickH l c ns vs sl)) {σ : St} {dd : Addr} {F' H' : Hp} (le : Le F F') (G : Good (gx X cA) B F' H' σ sl) (xd : XdAt (gx X cA) F' H' dd ns vs) : wHds X.K W E (hd0 (gx X cA) B l cs) (.ref (cA c)) (some dd) σ H' := by
  induction h with
  | nil => exact p σ dd F' H' le G xd
  | @cons x cv n h b₀ suite np pos' hds l cs hc hn hk hsu r ih =>
    simp only [pickH] at p
    cases q : h.ks.lookup c with
    | none => simp only [q] at p; exact p.elim
    | some b =>
      refine ⟨b, hk _ (lookup_mem q), fun hb a na => ?_, fun hb => ?_⟩
      · subst hb
        simp only [q] at p
        cases e : putX h.i c ns vs sl with
        | none => simp only [e] at p; exact p.elim
        | some sl' =>
          simp only [e] at p
          have p' : ∀ oe, PostS (gx X cA) { B with ex := some (a, oe) } (fun _ _ _ _ => False) F' (endD h.i E) (h.m sl') := fun oe => PostS.le (endH_ok p) le
          cases hi : h.i with
          | none =>
            have p2 := p'
            rw [hi] at e p2
            cases e
            show hdT (gx X cA) B h a _ _ E σ H'
            exact fun oe hz => ⟨F', sl, G.exOf ne, p2 oe⟩
          | some i =>
            have p2 := p'
            rw [hi] at e p2
            simp only [putX] at e
            by_cases st : storable sl i = true
            · rw [if_pos st] at e
              cases e
              show hdT (gx X cA) B h a _ _ (endSet i E) (σ.set i (some (.ref a))) H'
              have hlt : i < sl.length := of_decide_eq_true (Bool.and_eq_true_iff.mp st).1
              intro oe hz
              have G0 : Good (gx X cA) { B with ex := some (a, oe) } F' H' σ sl := G.exOf ne
              refine ⟨F', _, G0.setSlot (s := .exc c ns vs) hlt ⟨a, oe, dd, rfl, List.getElem?_set_self (by rw [G.len]; exact hlt), hz.1, hz.2, xd⟩ fun b m => ?_, p2 oe⟩
              rcases m with ⟨⟨s, d', h1, h2⟩, _⟩ | ⟨ls, ks, q, xs, h1, _⟩
              · rw [List.getElem?_set_self hlt] at h1
                cases h1; cases h2
              · rw [List.getElem?_set_self hlt] at h1
                cases h1
            · rw [if_neg st] at e; cases e
      · subst hb
        simp only [q] at p
        exact ih p
theorem ss_try {cA : Nat → Addr} {X : Cx} {mb : SM} {body : List Stmt} {h₀ : ExceptHandler} {hds : List ExceptHandler} {l : List Hd} {cs : List Value} {pos : Pos} (hs : X.stack = X.env :: X.outer) (hf : X.env.frame = some X.env.locals) (hN : X.N.Nodup)
    (hb : ∀ (pn : List (Addr × Obj)) (xe : Value → Shared → Prop), PassesOwn (model X.prog X.w) X.A X.env xe → SSs cA (X.tr pn xe) mb body)
    (hh : HdsZ cA X (h₀ :: hds) l cs) : SS cA X (sTry mb l) (.Try body (h₀ :: hds) [] [] pos) := by
  refine ⟨fun B W tk => (ps_tryH (l := hd0 (gx X cA) B l cs) (tb := fun W' => tS (gx X cA) { B with ex := none } W' mb) hs hf hN tk.t (fun W' pn xe t po => (hb pn xe po).run { B with ex := none } W' ⟨(fun p e => nomatch (show none = some p from e)), t⟩) (hdsZ_ok hh)).of fun D σ H ⟨F, sl, G, p⟩ => ?_⟩
  simp only [sTry] at p
  by_cases ne : noExc sl = true
  · rw [if_pos ne] at p
    refine ⟨F, sl, G.exOf ne, ?_⟩
    cases e : mb sl with
    | bad => simp only [e] at p; exact p
    | nx sl' => simp only [e] at p; exact fun σ F' H' le G' => p σ F' H' le G'.exNo
    | brk sl' => simp only [e] at p; exact fun σ F' H' le G' => p σ F' H' le G'.exNo
    | cnt sl' => simp only [e] at p; exact fun σ F' H' le G' => p σ F' H' le G'.exNo
    | ret a sl' => simp only [e] at p; exact fun v σ F' H' le G' x => p v σ F' H' le G'.exNo (by cases a <;> exact x)
    | retM ls ks sl' => simp only [e] at p; exact fun v σ F' H' le G' x => p v σ F' H' le G'.exNo x
    | err c ns vs sl' =>
      simp only [e] at p
      by_cases n2 : noExc sl' = true
      · rw [if_pos n2] at p
        exact fun σ dd F' H' le G' xd => pick_ok hh n2 p le G'.exNo xd
      · rw [if_neg n2] at p; exact p.elim
  · rw [if_neg ne] at p; exact p.elim
end Za
end
section
set_option Elab.async false
set_option linter.all false
set_option maxRecDepth 100000
set_option maxHeartbeats 2000000
/-! Zb1: a hash table is laid clean: every hash finds a place. Tables of at most 32 places. -/
namespace Zb
open PySem SetTable L2

def orb (mask : Nat) : Nat → Nat → List Nat
  | 0, _ => []
  | n + 1, i => i :: orb mask n ((i * 5 + 1) % (mask + 1))
def cov (mask : Nat) : Bool := (List.range (mask + 1)).all fun i => (List.range (mask + 1)).all fun j => (orb mask (mask + 1) i).contains j
theorem cov7 : cov 7 = true := by decide +kernel
theorem cov15 : cov 15 = true := by decide +kernel
theorem cov31 : cov 31 = true := by decide +kernel

variable {mask : Nat} {owner : Array (Option Nat)}
def Free (owner : Array (Option Nat)) (j : Nat) : Prop := owner[j]? = some none
theorem free_sound : ∀ (fuel i p j : Nat), layClean.free mask owner fuel i p = some j → Free owner j := by
  intro fuel
  induction fuel with
  | zero => intro i p j h; cases h
  | succ fuel ih =>
    intro i p j h
    unfold layClean.free at h
    split at h
    · rename_i k hk
      cases h
      have q := List.find?_some hk
      unfold Free
      rw [Array.getD_eq_getD_getElem?] at q
      cases e : owner[i + k]? with
      | none => rw [e] at q; cases q
      | some o =>
        rw [e] at q
        cases o with
        | none => rfl
        | some m => cases q
    · exact ih _ _ _ h
theorem free_here {i : Nat} (h : Free owner i) (hi : i ≤ mask) (fuel p : Nat) : layClean.free mask owner (fuel + 1) i p ≠ none := by
  unfold layClean.free
  split
  · simp
  · rename_i hn
    have q := List.find?_eq_none.mp hn 0 (List.mem_range.mpr (by unfold runEnd; split <;> omega))
    exfalso
    apply q
    rw [Nat.add_zero, Array.getD_eq_getD_getElem?, show owner[i]? = some none from h]
    rfl
/-- the search, with the perturbation gone -/
theorem free_orb (hm : owner.size = mask + 1) : ∀ (n fuel i j : Nat), j ∈ orb mask n i → n ≤ fuel → i ≤ mask → Free owner j → layClean.free mask owner fuel i 0 ≠ none := by
  intro n
  induction n with
  | zero => intro fuel i j h; cases h
  | succ n ih =>
    intro fuel i j h hf hi fr
    cases fuel with
    | zero => omega
    | succ fuel =>
      rcases List.mem_cons.mp h with rfl | h
      · exact free_here fr hi fuel 0
      · unfold layClean.free
        split
        · simp
        · have e : leap mask i 0 = ((i * 5 + 1) % (mask + 1), 0) := by unfold leap; simp
          rw [e]
          exact ih fuel _ j h (by omega) (by have := Nat.mod_lt (i * 5 + 1) (show 0 < mask + 1 by omega); omega) fr
theorem free_pert (hm : owner.size = mask + 1) (hc : cov mask = true) {j : Nat} (hj : j ≤ mask) (fr : Free owner j) : ∀ (t p i fuel : Nat), p < 32 ^ t → t + (mask + 1) ≤ fuel → i ≤ mask → layClean.free mask owner fuel i p ≠ none := by
  intro t
  induction t with
  | zero =>
    intro p i fuel hp hf hi
    have : p = 0 := by simpa using hp
    subst this
    have c := List.all_eq_true.mp (List.all_eq_true.mp hc i (List.mem_range.mpr (by omega))) j (List.mem_range.mpr (by omega))
    exact free_orb hm (mask + 1) fuel i j (by simpa using c) (by omega) hi fr
  | succ t ih =>
    intro p i fuel hp hf hi
    cases fuel with
    | zero => omega
    | succ fuel =>
      unfold layClean.free
      split
      · simp
      · have hlt := Nat.mod_lt (i * 5 + 1 + p / 32) (show 0 < mask + 1 by omega)
        show layClean.free mask owner fuel _ _ ≠ none
        refine ih (p / 32) _ fuel ?_ (by omega) (by show (i * 5 + 1 + p / 32) % (mask + 1) ≤ mask; omega)
        rw [Nat.pow_succ] at hp
        exact Nat.div_lt_of_lt_mul (by rw [Nat.mul_comm]; exact hp)
theorem free_found (hm : owner.size = mask + 1) (hc : cov mask = true) {j : Nat} (hj : j ≤ mask) (fr : Free owner j) (h : Int) : ∃ k, layClean.free mask owner (turns mask) (bits h % (mask + 1)) (bits h) = some k ∧ Free owner k := by
  have q : layClean.free mask owner (turns mask) (bits h % (mask + 1)) (bits h) ≠ none := by
    refine free_pert hm hc hj fr 13 (bits h) _ _ ?_ (by unfold turns; omega) (by have := Nat.mod_lt (bits h) (show 0 < mask + 1 by omega); omega)
    have : bits h < 2 ^ 64 := by unfold bits; have := Int.emod_lt_of_pos h (show (0:Int) < 2 ^ 64 by decide); have := Int.emod_nonneg h (show (2 ^ 64 : Int) ≠ 0 by decide); omega
    exact Nat.lt_of_lt_of_le this (by decide)
  obtain ⟨k, hk⟩ := Option.ne_none_iff_exists'.mp q
  exact ⟨k, hk, free_sound _ _ _ _ hk⟩

/-- what has been laid -/
structure Laid (mask : Nat) (owner : Array (Option Nat)) (k : Nat) : Prop where
  size : owner.size = mask + 1
  perm : (owner.toList.filterMap id).Perm (List.range k)
theorem fm_set {k : Nat} : ∀ {l : List (Option Nat)} {j : Nat}, l[j]? = some none → ((l.set j (some k)).filterMap id).Perm (k :: l.filterMap id) := by
  intro l
  induction l with
  | nil => intro j h; simp at h
  | cons a l ih =>
    intro j h
    cases j with
    | zero =>
      simp at h; subst h
      simp
    | succ j =>
      have q := ih (j := j) (by simpa using h)
      rw [List.set_cons_succ]
      cases a with
      | none => simpa using q
      | some m =>
        simp only [List.filterMap_cons, id]
        exact (q.cons m).trans (List.Perm.swap k m _)
theorem fm_free : ∀ {l : List (Option Nat)}, (l.filterMap id).length < l.length → ∃ j : Nat, j < l.length ∧ l[j]? = some none := by
  intro l
  induction l with
  | nil => intro h; simp at h
  | cons a l ih =>
    intro h
    cases a with
    | none => exact ⟨0, by simp, rfl⟩
    | some m =>
      have h' : (l.filterMap id).length < l.length := by simpa using h
      obtain ⟨j, h1, h2⟩ := ih h'
      exact ⟨j + 1, by simpa using h1, by simpa using h2⟩
theorem laid_step {k : Nat} (L : Laid mask owner k) (hc : cov mask = true) (hk : k ≤ mask) (h : Int) : ∃ j, layClean.free mask owner (turns mask) (bits h % (mask + 1)) (bits h) = some j ∧ Laid mask (owner.setIfInBounds j (some k)) (k + 1) := by
  obtain ⟨j, hj, fr⟩ := fm_free (l := owner.toList) (by rw [L.perm.length_eq, List.length_range, Array.length_toList, L.size]; omega)
  rw [Array.length_toList, L.size] at hj
  obtain ⟨i, h1, h2⟩ := free_found L.size hc (j := j) (by omega) (by rw [Array.getElem?_toList] at fr; exact fr) h
  refine ⟨i, h1, by rw [Array.size_setIfInBounds]; exact L.size, ?_⟩
  rw [Array.toList_setIfInBounds, List.range_succ]
  have e : owner.toList[i]? = some none := by rw [Array.getElem?_toList]; exact h2
  exact (fm_set e).trans ((L.perm.cons k).trans (List.perm_append_singleton _ _).symm)
theorem laid_go (hc : cov mask = true) : ∀ (hs : List Int) (owner : Array (Option Nat)) (k : Nat), Laid mask owner k → k + hs.length ≤ mask + 1 →
    ∃ o', hs.foldl (fun (acc : Option (Array (Option Nat) × Nat)) h => do
      let (owner, k) ← acc
      let j ← layClean.free mask owner (turns mask) (bits h % (mask + 1)) (bits h)
      pure (owner.setIfInBounds j (some k), k + 1)) (some (owner, k)) = some (o', k + hs.length) ∧ Laid mask o' (k + hs.length) := by
  intro hs
  induction hs with
  | nil => intro owner k L _; exact ⟨owner, rfl, L⟩
  | cons h hs ih =>
    intro owner k L hl
    rw [List.length_cons] at hl
    obtain ⟨j, e, L'⟩ := laid_step L hc (by omega) h
    obtain ⟨o', e2, L2⟩ := ih _ _ L' (by omega)
    refine ⟨o', ?_, by rw [List.length_cons]; rw [show k + (hs.length + 1) = k + 1 + hs.length by omega]; exact L2⟩
    rw [List.foldl_cons, List.length_cons, show k + (hs.length + 1) = k + 1 + hs.length by omega]
    rw [← e2]
    congr 1
    simp [e]
theorem layClean_ok (hc : cov mask = true) (hs : Array Int) (hl : hs.size ≤ mask + 1) : ∃ o', layClean mask hs = some o' ∧ Laid mask o' hs.size := by
  have L0 : Laid mask (Array.replicate (mask + 1) none) 0 := ⟨by simp, by simp [List.filterMap_replicate]⟩
  obtain ⟨o', e, L⟩ := laid_go hc hs.toList _ 0 L0 (by simpa using hl)
  refine ⟨o', ?_, by simpa using L⟩
  unfold layClean
  rw [← Array.foldl_toList, e]
  rfl
theorem order_perm {α : Type} {es : Array α} {order : List Nat} (h : order.Perm (List.range es.size)) : (order.filterMap (es[·]?)).Perm es.toList := by
  refine (h.filterMap _).trans ?_
  have : (List.range es.size).filterMap (es[·]?) = es.toList := by
    apply List.ext_getElem?
    intro i
    have gen : ∀ (l : List α), (List.range l.length).filterMap (fun i => l[i]?) = l := by
      intro l
      induction l with
      | nil => rfl
      | cons a l ih =>
        rw [List.length_cons, List.range_succ_eq_map, List.filterMap_cons]
        simp only [List.getElem?_cons_zero, List.filterMap_map]
        congr 1
    have e := gen es.toList
    rw [Array.length_toList] at e
    have e2 : (List.range es.size).filterMap (fun i => es[i]?) = (List.range es.size).filterMap (fun i => es.toList[i]?) := by
      congr 1; funext i; rw [Array.getElem?_toList]
    rw [e2, e]
  rw [this]
/-- the order of a clean lay, its table -/
structure LaidT (mask n : Nat) (finger moves : Nat) (led plain : Bool) (t : SetTable) (order : Array Nat) : Prop where
  perm : order.toList.Perm (List.range n)
  size : t.place.size = n
  mask : t.mask = mask
  dum : t.dummies = #[]
  led : t.led = led
  ris : Ris t.place.toList
theorem laid_ok (hc : cov mask = true) (hs : Array Int) (hl : hs.size ≤ mask + 1) (finger moves : Nat) (led plain : Bool) : ∃ t order, laid mask finger moves led plain hs = some (t, order) ∧ LaidT mask hs.size finger moves led plain t order := by
  obtain ⟨o, e, L⟩ := layClean_ok hc hs hl
  have hlive : ((List.range (mask + 1)).filterMap fun j => (o.getD j none).map (j, ·)).map (·.2) = o.toList.filterMap id := by
    rw [List.map_filterMap]
    have gen : ∀ (l : List (Option Nat)), (List.range l.length).filterMap (fun j => ((l[j]?).getD none)) = l.filterMap id := by
      intro l
      induction l with
      | nil => rfl
      | cons a l ih =>
        rw [List.length_cons, List.range_succ_eq_map, List.filterMap_cons, List.filterMap_cons]
        simp only [List.getElem?_cons_zero, List.filterMap_map, Option.getD_some, id]
        have e2 : (List.range l.length).filterMap ((fun j => ((a :: l)[j]?).getD none) ∘ Nat.succ) = l.filterMap id := by
          rw [← ih]; congr 1
        cases a with
        | none => exact e2
        | some m => simp only [e2]
    have e3 := gen o.toList
    rw [Array.length_toList, L.size] at e3
    rw [← e3]
    congr 1
    funext j
    rw [Array.getD_eq_getD_getElem?, Array.getElem?_toList]
    cases (o[j]?).getD none <;> rfl
  have hlen : ((List.range (mask + 1)).filterMap fun j => (o.getD j none).map (j, ·)).length = hs.size := by
    have z := congrArg List.length hlive
    rw [List.length_map, L.perm.length_eq, List.length_range] at z
    exact z
  refine ⟨_, _, by unfold laid; rw [e]; rfl, ?_, ?_, rfl, rfl, rfl, ?_⟩
  · show (((List.range (mask + 1)).filterMap fun j => (o.getD j none).map (j, ·)).map (·.2)).toArray.toList.Perm _
    rw [hlive]
    exact L.perm
  · show (((List.range (mask + 1)).filterMap fun j => (o.getD j none).map (j, ·)).map (·.1)).toArray.size = _
    rw [List.size_toArray, List.length_map, hlen]
  · exact (ris_live (fun j => o.getD j none) (List.range (mask + 1)) (by unfold Ris; first | exact List.pairwise_lt_range | exact List.pairwise_lt_range _)).1
end Zb
end
section
set_option Elab.async false
set_option linter.all false
set_option maxRecDepth 100000
set_option maxHeartbeats 2000000
/-! Zb2: set ^ set, of ints. -/
namespace Zb
open PySem PySem.Spec PyProof.Rows L2 SetTable
section
variable {P : Program} {w : World} {A : Around} {E : Value → Shared → Prop} {s : Shared} {a r : Addr} {S : Int → Bool} {n : Nat}

theorem eraseAt_list {α : Type} (xs : Array α) (p : Nat) : (eraseAt xs p).toList = xs.toList.eraseIdx p := by
  unfold eraseAt
  rw [Array.toList_append, Array.toList_extract, Array.toList_extract, List.eraseIdx_eq_take_drop_succ]
  simp
  exact List.take_of_length_le (by simp)
theorem insertAt_size {α : Type} (xs : Array α) (p : Nat) (x : α) : (insertAt xs p x).size = xs.size + 1 := by
  unfold insertAt
  simp
  omega
theorem drop_facts {t : SetTable} {i n : Nat} (hf : t.fits n = true) (hr : Ris t.place.toList) (hi : i < n) : (t.drop i).fits (n - 1) = true ∧ Ris (t.drop i).place.toList ∧ (t.drop i).led = t.led := by
  have h0 : t.place.size = n ∧ t.fill ≤ t.mask := by simpa [SetTable.fits] using hf
  obtain ⟨h1, h2⟩ := h0
  obtain ⟨j, hj⟩ : ∃ j, t.place[i]? = some j := ⟨t.place[i]'(by omega), Array.getElem?_eq_getElem (by omega)⟩
  unfold SetTable.drop
  rw [hj]
  have e1 : (eraseAt t.place i).size = n - 1 := by
    rw [← Array.length_toList, eraseAt_list, List.length_eraseIdx]
    rw [Array.length_toList, h1, if_pos hi]
  refine ⟨?_, ?_, rfl⟩
  · unfold SetTable.fits SetTable.fill
    dsimp only
    rw [e1, insertAt_size]
    unfold SetTable.fill at h2
    simp
    omega
  · show Ris (eraseAt t.place i).toList
    rw [eraseAt_list]
    exact List.Pairwise.sublist (List.eraseIdx_sublist ..) hr
theorem setR_discard_hashed {k : Int} {tk : Tok} {Q : Bool → Shared → Prop} (R : SetR w s.heap a S n)
    (hQ : ∀ h', Heap.SameBut a s.heap h' → SetR w h' a (fun j => S j && decide (j ≠ k)) (if S k = true then n - 1 else n) → Q (S k) { s with heap := h' }) :
    wpAny (model P w) A (setDiscardHashed a (.int k tk) (hashInt k)) Q E s := by
  obtain ⟨o, es, ep, t, ho, hex, hd, g, nd, hm, hb, hf, hn, hr, hl⟩ := R
  have hkey : (intKind P w).is k (.int k tk) = true := intKind_is P w k tk
  have hsc : (Value.int k tk).scannable = true := rfl
  have hel : ElemsOf (intKind P w) es.toList := good_elems g
  unfold setDiscardHashed setFind setFindIn
  refine wpAny_bind (wpAny_bind (wpAny_setState_of ho hd hf ?_))
  dsimp only
  rw [byScan_of hsc hb hel]
  simp only [↓reduceIte]
  refine wpAny_bind (wpAny_rule ?_)
  refine wpAny_bind (wpAny_setScan_of (knd := intKind P w) hkey ho hd hf hel ?_)
  cases hfi : List.findIdx? (fun e => (intKind P w).is k e.2) es.toList with
  | none =>
    dsimp only
    have hSk : S k = false := by
      cases q : S k with
      | false => rfl
      | true =>
        obtain ⟨e, he, q⟩ := (good_mem (P := P) (w := w) g k).1 ((hm k).1 q)
        have c := List.findIdx?_eq_none_iff.mp hfi e he
        rw [q] at c
        cases c
    refine wpAny_pure ?_
    show wpAny _ _ (pure false) _ _ _
    refine wpAny_pure ?_
    have q := hQ s.heap (Heap.SameBut.refl a s.heap) ⟨o, es, ep, t, ho, hex, hd, g, nd, fun i => by
      rw [Bool.and_eq_true, decide_eq_true_eq, ← hm i]
      exact ⟨fun z => z.1, fun z => ⟨z, fun e => by rw [e, hSk] at z; cases z⟩⟩, hb, hf, by rw [if_neg (by rw [hSk]; decide)]; exact hn, hr, hl⟩
    rw [hSk] at q
    exact q
  | some j =>
    dsimp only
    obtain ⟨hj, pj, _⟩ := List.findIdx?_eq_some_iff_getElem.mp hfi
    have hjn : j < es.size := by simpa using hj
    have hSk : S k = true := (hm k).2 ((good_mem (P := P) (w := w) g k).2 ⟨es.toList[j], List.getElem_mem hj, pj⟩)
    have hkj : keyOf es.toList[j] = k := (good_is (P := P) (w := w) (g _ (List.getElem_mem hj)) k).1 pj
    refine wpAny_pure ?_
    show wpAny _ _ (setState a >>= _) _ _ _
    refine wpAny_bind (wpAny_setState_of ho hd hf ?_)
    dsimp only
    rw [Nat.zero_add]
    obtain ⟨f1, f2, f3⟩ := drop_facts hf hr hjn
    have hsz : (eraseAt es j).size = n - 1 := by
      rw [← Array.length_toList, eraseAt_list, List.length_eraseIdx, if_pos hj, Array.length_toList, hn]
    refine wpAny_bind (wpAny_storeSet_of ho hd ?_ (fits_of_scanBound (by rw [hsz]; omega)))
    refine wpAny_bind (wpAny_point (wpAny_pure ?_))
    have ho2 := store_at (es' := eraseAt es j) (t' := t.drop j) ho hd
    have pm : (es.toList[j] :: es.toList.eraseIdx j).Perm es.toList := erase_perm es.toList j _ (List.getElem?_eq_getElem hj)
    have pk := pm.map keyOf
    rw [List.map_cons, hkj] at pk
    have nd2 := pk.nodup_iff.mpr nd
    obtain ⟨nk, nd3⟩ := List.nodup_cons.mp nd2
    have q := hQ _ (Heap.SameBut.update s.heap a _) ⟨_, eraseAt es j, _, t.drop j, ho2, hex, rfl, fun e he => g e (by rw [eraseAt_list] at he; exact (List.eraseIdx_sublist ..).subset he), by rw [eraseAt_list]; exact nd3, fun i => by
      rw [eraseAt_list, Bool.and_eq_true, decide_eq_true_eq, hm i, ← pk.mem_iff, List.mem_cons]
      exact ⟨fun ⟨z1, z2⟩ => z1.resolve_left z2, fun z => ⟨.inr z, fun e => nk (e ▸ z)⟩⟩, by rw [hsz]; omega, by rw [hsz, ← hn]; exact f1, by rw [if_pos hSk]; exact hsz, f2, hl.imp id fun z => by rw [f3]; exact z⟩
    rw [hSk] at q
    exact q

/-- one element is put in or taken out -/
theorem flip_ok {k : Int} {tk : Tok} {Q : Unit → Shared → Prop} (R : SetR w s.heap a S n) (room : n + 1 < scanBound)
    (hQ : ∀ h' m, Heap.SameBut a s.heap h' → SetR w h' a (fun j => S j != decide (j = k)) m → m ≤ n + 1 → Q () { s with heap := h' }) :
    wpAny (model P w) A (holding [.int k tk] (do
      if !(← setDiscardHashed a (.int k tk) (hashInt k)) then
        let _ ← setAddHashed a (.int k tk) (hashInt k))) Q E s := by
  refine wpAny_holding (wpAny_bind (setR_discard_hashed R fun h1 sb R1 => ?_))
  cases hk : S k with
  | true =>
    simp only [Bool.not_true, Bool.false_eq_true, ↓reduceIte]
    refine wpAny_pure (hQ h1 _ sb (R1.congr fun j => ?_) (by rw [hk, if_pos rfl]; omega))
    by_cases e : j = k
    · subst e; simp [hk]
    · simp [e]
  | false =>
    simp only [Bool.not_false, ↓reduceIte]
    rw [hk, if_neg Bool.false_ne_true] at R1
    refine wpAny_bind (setR_add_hashed (P := P) (s := { s with heap := h1 }) R1 room fun h2 sb2 R2 => wpAny_pure ?_)
    refine hQ h2 _ (sb.trans sb2) (R2.congr fun j => ?_) (by split <;> omega)
    by_cases e : j = k
    · subst e; simp [hk]
    · simp [e]

/-! ### walks -/
theorem pick_perm' (next : Nat → Nat) (es : Array (Int × Value)) : (pickOrder next es).toList.Perm es.toList := pick_perm next es
/-- the ints of a list of entries -/
structure Ents (S : Int → Bool) (n : Nat) (l : List (Int × Value)) : Prop where
  good : ∀ e ∈ l, GoodE e
  nd : (l.map keyOf).Nodup
  mem : ∀ k, S k = true ↔ k ∈ l.map keyOf
  len : l.length = n
theorem Ents.perm {l l' : List (Int × Value)} (h : Ents S n l) (p : l'.Perm l) : Ents S n l' :=
  ⟨fun e he => h.good e (p.mem_iff.mp he), (p.map keyOf).nodup_iff.mpr h.nd, fun k => (h.mem k).trans (p.map keyOf).mem_iff.symm, p.length_eq.trans h.len⟩
theorem walk_ok {es : Array (Int × Value)} {ep : Nat} {t : SetTable} {o : Obj} {Q : Array (Int × Value) → Shared → Prop} (ho : s.heap.get? a = some o) (hd : o.data = .set es ep t) (hf : t.fits es.size = true) (hl : w.params.followText "set-order" = true ∨ t.led = true)
    (hdr : w.params.followText "set-order" = true ∨ (!t.plain && decide (es.size > 1)) = false) (hQ : ∀ arr : Array (Int × Value), arr.toList.Perm es.toList → Q arr s) : wpAny (model P w) A (setWalk a) Q E s := by
  unfold setWalk
  refine wpAny_bind (wpAny_setState_of ho hd hf ?_)
  dsimp only
  refine wpAny_bind (wpAny_byText ?_)
  cases hbt : w.params.followText "set-order" with
  | true =>
    refine wp_if_pos rfl ?_
    exact wpAny_bind (wpAny_askSetting (wpAny_pure (hQ _ (pick_perm' _ es))))
  | false =>
    refine wp_if_neg Bool.false_ne_true ?_
    try refine wpAny_bind (wpAny_pure ?_)
    have hdr' : (!t.plain && decide (es.size > 1)) = false := hdr.resolve_left (by rw [hbt]; exact Bool.false_ne_true)
    have hl' : t.led = true := hl.resolve_left (by rw [hbt]; exact Bool.false_ne_true)
    refine wp_if_neg (by show ¬ ((!t.plain && decide (es.size > 1)) = true); rw [hdr']; exact Bool.false_ne_true) ?_
    try refine wpAny_bind (wpAny_pure ?_)
    refine wpAny_bind (wpAny_of_eq (a := ()) ?_ (wpAny_pure (hQ es (List.Perm.refl _))))
    show (if (!t.led && decide (es.size > 1)) = true then unsupported "set:maker-not-led" else pure ()) = pure ()
    rw [hl'] <;> rfl
theorem entries_ok {es : Array (Int × Value)} {ep : Nat} {t : SetTable} {o : Obj} {Q : Array (Int × Value) → Shared → Prop} (ho : s.heap.get? a = some o) (hd : o.data = .set es ep t) (hf : t.fits es.size = true) (h : Q es s) : wpAny (model P w) A (setEntries a) Q E s := by
  unfold setEntries
  exact wpAny_bind (wpAny_setState_of ho hd hf (wpAny_pure h))
/-- sets of ints are quiet -/
theorem quiet_ok {Q : Bool → Shared → Prop} {l : List Addr} (hl : ∀ b ∈ l, ∃ S n, SetR w s.heap b S n) (h : Q true s) : wpAny (model P w) A (setsQuiet l) Q E s := by
  unfold setsQuiet
  refine wpAny_bind (wpAny_forIn_list _ (fun rest b s' => b.1 = none ∧ s' = s ∧ ∀ b ∈ rest, ∃ S n, SetR w s.heap b S n) _ ?_ ?_ _ _ ⟨rfl, rfl, hl⟩)
  · rintro x rest b s' ⟨hb, rfl, hr⟩
    obtain ⟨S, n, o, es, ep, t, ho, hex, hd, g, nd, hm, hsz, hf, hn, _⟩ := hr x List.mem_cons_self
    refine wpAny_bind (entries_ok ho hd hf ?_)
    refine wpAny_bind (MeetsSeq2.wpAny_forIn_array _ (fun rest b s'' => b.1 = none ∧ s'' = s' ∧ ∀ e ∈ rest, GoodE e) _ ?_ ?_ _ _ ⟨rfl, rfl, g⟩)
    · rintro ⟨hh, x⟩ rest2 b2 s'' ⟨hb2, rfl, hg⟩
      obtain ⟨k, tk, e1, _⟩ := hg _ List.mem_cons_self
      simp only at e1
      subst e1
      dsimp only
      refine wpAny_pure ?_
      exact ⟨rfl, rfl, fun e he => hg e (List.mem_cons_of_mem _ he)⟩
    · rintro ⟨b1, b2⟩ s'' ⟨hb2, rfl, _⟩
      simp only at hb2
      subst hb2
      dsimp only
      exact wpAny_pure ⟨rfl, rfl, fun b hb => hr b (List.mem_cons_of_mem _ hb)⟩
  · rintro ⟨b1, b2⟩ s' ⟨hb, rfl, _⟩
    simp only at hb
    subst hb
    exact wpAny_pure h

theorem unseen_ok {T : Int → Bool} {m : Nat} {Q : Array (Int × Value) → Shared → Prop} (R : SetR w s.heap a S n) (Rr : SetR w s.heap r T m)
    (hQ : ∀ h' (arr : Array (Int × Value)), Heap.SameBut r s.heap h' → SetR w h' r T m → Ents S n arr.toList → Q arr { s with heap := h' }) : wpAny (model P w) A (setWalkUnseen a [r] (some r)) Q E s := by
  have R0 := R
  obtain ⟨o, es, ep, t, ho, hex, hd, g, nd, hm, hb, hf, hn, hr, hl⟩ := R
  have En : Ents S n es.toList := ⟨g, nd, hm, by rw [Array.length_toList]; exact hn⟩
  have plain : (w.params.followText "set-order" = true ∨ (!t.plain && decide (es.size > 1)) = false) → wpAny (model P w) A (setWalk a) Q E s := fun hdr =>
    walk_ok ho hd hf hl hdr fun arr p => hQ s.heap arr (Heap.SameBut.refl r s.heap) Rr (En.perm p)
  unfold setWalkUnseen
  refine wpAny_bind (wpAny_setState_of ho hd hf ?_)
  dsimp only
  refine wpAny_bind (wpAny_byText ?_)
  by_cases c : (w.params.followText "set-order" || t.led && t.plain || decide (es.size ≤ 1)) = true
  · refine wp_if_pos c ?_
    refine plain ?_
    simp only [Bool.or_eq_true, Bool.and_eq_true, decide_eq_true_eq] at c
    rcases c with (c | c) | c
    · exact .inl c
    · exact .inr (by rw [c.2]; rfl)
    · exact .inr (by simp; intro _; exact c)
  · refine wp_if_neg c ?_
    try refine wpAny_bind (wpAny_pure ?_)
    have hbt : w.params.followText "set-order" = false := by
      cases q : w.params.followText "set-order" with
      | false => rfl
      | true => exact absurd (by simp [q]) c
    have htl : t.led = true := hl.resolve_left (by rw [hbt]; exact Bool.false_ne_true)
    refine wpAny_bind (quiet_ok (P := P) (w := w) (l := [a, r]) (fun b hb => ?_) ?_)
    · rcases List.mem_cons.mp hb with rfl | hb
      · exact ⟨S, n, R0⟩
      · rw [List.mem_singleton.mp hb]; exact ⟨T, m, Rr⟩
    · refine wp_if_neg (by simp) ?_
      try refine wpAny_bind (wpAny_pure ?_)
      refine wpAny_bind (wpAny_rule ?_)
      have Rr0 := Rr
      obtain ⟨o2, es2, ep2, t2, ho2, hex2, hd2, g2, nd2, hm2, hb2, hf2, hn2, hr2, hl2⟩ := Rr
      have htl2 : t2.led = true := hl2.resolve_left (by rw [hbt]; exact Bool.false_ne_true)
      refine wpAny_bind (wpAny_setState_of ho2 hd2 hf2 ?_)
      dsimp only
      by_cases c2 : ((t2.led && !t.led) || (t2.plain && !t.plain)) = true
      · refine wp_if_pos c2 ?_
        refine wpAny_bind (wpAny_storeSet_of ho2 hd2 ?_ (fits_of_scanBound hb2))
        have ho3 := store_at (es' := es2) (t' := { t2 with led := t2.led && t.led, plain := t2.plain && t.plain }) ho2 hd2
        refine wpAny_pure (hQ _ es (Heap.SameBut.update s.heap r _) ⟨_, es2, _, _, ho3, hex2, rfl, g2, nd2, hm2, hb2, hf2, hn2, hr2, .inr (by show (t2.led && t.led) = true; rw [htl, htl2]; rfl)⟩ En)
      · refine wp_if_neg c2 ?_
        try refine wpAny_bind (wpAny_pure ?_)
        exact wpAny_pure (hQ s.heap es (Heap.SameBut.refl r s.heap) Rr0 En)

/-- r ^= a -/
theorem sym_ok {T : Int → Bool} {m : Nat} {id : String} {Q : Unit → Shared → Prop} (R : SetR w s.heap a S n) (Rr : SetR w s.heap r T m) (hne : a ≠ r) (room : n + m + 1 < scanBound)
    (hQ : ∀ h' c, Heap.SameBut r s.heap h' → SetR w h' r (fun k => T k != S k) c → c ≤ n + m → Q () { s with heap := h' }) :
    wpAny (model P w) A (Builtin.Frozenset.symmetricDifferenceUpdate id r (.ref a)) Q E s := by
  have hTa : s.TypeIs (.ref a) "set" := by obtain ⟨o, _, _, _, ho, hex, _⟩ := R; exact ⟨o, ho, hex.1⟩
  have R0 := R
  obtain ⟨o, es, ep, t, ho, hex, hd, g, nd, hm, hb, hf, hn, hr, hl⟩ := R
  unfold Builtin.Frozenset.symmetricDifferenceUpdate
  refine wp_if_neg (by simpa using fun z : a = r => hne z) ?_
  try refine wpAny_bind (wpAny_pure ?_)
  refine wpAny_bind (wpAny_typeOf hTa ?_)
  refine wp_if_neg (by decide) ?_
  try refine wpAny_bind (wpAny_pure ?_)
  have any : ∀ {Q' : Bool → Shared → Prop}, Q' true s → wpAny (model P w) A (Builtin.Frozenset.isAnySet (.ref a)) Q' E s := fun {Q'} q => by
    unfold Builtin.Frozenset.isAnySet orM
    refine wpAny_bind (wpAny_isInstance (b := true) hTa sub_set_self ?_)
    exact wpAny_pure q
  refine wpAny_bind (any ?_)
  refine wp_if_pos rfl ?_
  refine wpAny_bind (wpAny_pure ?_)
  unfold Builtin.Frozenset.addrOf
  refine wpAny_bind (wpAny_pure ?_)
  refine wpAny_bind (wpAny_setEpoch_of ho hd hf ?_)
  refine wpAny_holding (wpAny_bind (unseen_ok R0 Rr fun h1 arr sb R1 En => ?_))
  refine wpAny_bind (MeetsSeq2.wpAny_forIn_array _ (fun rest _ s' => ∃ h' c, s' = { s with heap := h' } ∧ Heap.SameBut r s.heap h' ∧ (∀ e ∈ rest, GoodE e ∧ S (keyOf e) = true) ∧ (rest.map keyOf).Nodup ∧ c + rest.length ≤ n + m ∧ SetR w h' r (fun k => T k != (S k && decide (k ∉ rest.map keyOf))) c) (fun _ s' => wpAny (model P w) A (pure ()) Q E s') ?_ ?_ arr _ ?_)
  · rintro ⟨hh, x⟩ rest b s' ⟨h', c, rfl, sb', hg, hnd, hc, R2⟩
    obtain ⟨⟨k, tk, e1, e2⟩, hSk⟩ := hg _ List.mem_cons_self
    simp only at e1 e2
    subst e1 e2
    rw [List.length_cons] at hc
    have hnd' : k ∉ rest.map keyOf ∧ (rest.map keyOf).Nodup := List.nodup_cons.mp hnd
    refine wpAny_bind (flip_ok (s := { s with heap := h' }) R2 (by omega) fun h2 c2 sb2 R3 hc2 => ?_)
    have hoa : h2.get? a = some o := by rw [sb2.2 a hne, sb'.2 a hne]; exact ho
    unfold Builtin.Frozenset.unchanged
    refine wpAny_bind (wpAny_bind (wpAny_setEpoch_of (s := { s with heap := h2 }) hoa hd hf ?_))
    refine wp_if_neg (by simp) (wpAny_pure (wpAny_pure ?_))
    refine ⟨h2, c2, rfl, sb'.trans sb2, fun e he => hg e (List.mem_cons_of_mem _ he), hnd'.2, by omega, R3.congr fun j => ?_⟩
    have hk : S k = true := hSk
    show (T j != (S j && decide (j ∉ rest.map keyOf))) = ((T j != (S j && decide (j ∉ k :: rest.map keyOf))) != decide (j = k))
    by_cases e : j = k
    · subst e
      rw [decide_eq_true hnd'.1, decide_eq_false (fun z => z List.mem_cons_self), hk]
      cases T j <;> simp
    · have e2 : (j ∉ k :: rest.map keyOf) ↔ (j ∉ rest.map keyOf) := by rw [List.mem_cons]; exact ⟨fun z y => z (.inr y), fun z y => y.elim e z⟩
      rw [decide_eq_false e, decide_eq_decide.mpr e2]
      cases T j <;> cases S j <;> cases decide (j ∉ rest.map keyOf) <;> rfl
  · rintro b s' ⟨h', c, rfl, sb', _, _, hc, R2⟩
    exact wpAny_pure (hQ h' c sb' (R2.congr fun k => by simp) (by simpa using hc))
  · refine ⟨h1, m, rfl, sb, fun e he => ⟨En.good e he, (En.mem _).mpr (List.mem_map_of_mem he)⟩, En.nd, by rw [En.len]; omega, R1.congr fun k => ?_⟩
    have := En.mem k
    cases hS : S k with
    | false => simp
    | true => simp [this.mp hS]

/-! ### a fresh set takes another one's elements -/
/-- an empty set's table, of a size for c elements -/
structure Empty (w : World) (h : Heap) (r : Addr) (c : Nat) (o : Obj) (ep : Nat) (t : SetTable) : Prop where
  at_ : h.get? r = some o
  ex : o.ExactSet
  data : o.data = .set #[] ep t
  place : t.place = #[]
  dum : t.dummies = #[]
  cov : cov t.mask = true
  room : c ≤ t.mask
  led : w.params.followText "set-order" = true ∨ t.led = true
theorem Empty.fits {h : Heap} {c : Nat} {o : Obj} {ep : Nat} {t : SetTable} (e : Empty w h r c o ep t) : t.fits 0 = true := by
  unfold SetTable.fits SetTable.fill
  rw [e.place, e.dum]
  simp
theorem sizes : ∀ m, m < 16 → 5 ≤ m → cov (sizeAbove ((0 + m) * 2) - 1) = true ∧ m ≤ sizeAbove ((0 + m) * 2) - 1 ∧ sizeAbove ((0 + m) * 2) ≤ 32 := by decide +kernel
theorem room_ok {c ep : Nat} {t : SetTable} {o : Obj} {Q : Unit → Shared → Prop} (ho : s.heap.get? r = some o) (hex : o.ExactSet) (hd : o.data = .set #[] ep t) (hp : t.place = #[]) (hdu : t.dummies = #[]) (hm : t.mask = 7) (hl : w.params.followText "set-order" = true ∨ t.led = true) (hc : c < 16)
    (hQ : ∀ h' o' ep' t', Heap.SameBut r s.heap h' → Empty w h' r c o' ep' t' → Q () { s with heap := h' }) : wpAny (model P w) A (setRoomFor r c) Q E s := by
  have hf : t.fits (#[] : Array (Int × Value)).size = true := by unfold SetTable.fits SetTable.fill; rw [hp, hdu]; simp
  unfold setRoomFor
  refine wpAny_bind (wpAny_setState_of ho hd hf ?_)
  dsimp only
  have hfill : t.fill = 0 := by unfold SetTable.fill; rw [hp, hdu]; rfl
  unfold SetTable.roomFor
  rw [hfill, hp, hm]
  by_cases hb : (0 + c) * 5 ≥ 7 * 3
  · rw [if_pos hb]
    dsimp only
    obtain ⟨k1, k2, k3⟩ := sizes c hc (by omega)
    show wpAny _ _ (setRelay r ((0 + c) * 2)) _ _ _
    unfold setRelay
    refine wpAny_bind (wpAny_setState_of ho hd hf ?_)
    dsimp only
    refine wp_if_neg (by rw [sizeLine_eq]; omega) ?_
    try refine wpAny_bind (wpAny_pure ?_)
    obtain ⟨t', order, e, L⟩ := laid_ok k1 ((#[] : Array (Int × Value)).map (·.1)) (by simp) t.finger (t.movedTo (sizeAbove ((0 + c) * 2) - 1)) t.led t.plain
    have e' : t.relaid ((#[] : Array (Int × Value)).map (·.1)) ((0 + c) * 2) = some (t', order) := e
    rw [e']
    have hes : order.filterMap ((#[] : Array (Int × Value))[·]?) = #[] := by
      apply Array.ext'
      simp
    refine wpAny_bind (wpAny_of_eq (a := ((#[] : Array (Int × Value)), t')) ?_ ?_)
    · show (if ((order.filterMap ((#[] : Array (Int × Value))[·]?)).size != (#[] : Array (Int × Value)).size) = true then _ else _) = pure (#[], t')
      rw [hes]
      rfl
    · dsimp only
      refine wpAny_storeSet_of ho hd ?_ (Nat.zero_le _)
      have ho2 := store_at (es' := #[]) (t' := t') ho hd
      have hs0 : t'.place.size = 0 := by rw [L.size]; simp
      exact hQ _ _ _ t' (Heap.SameBut.update s.heap r _) ⟨ho2, hex, rfl, by simpa using hs0, L.dum, by rw [L.mask]; exact k1, by rw [L.mask]; exact k2, hl.imp id fun z => by rw [L.led]; exact z⟩
  · rw [if_neg hb]
    dsimp only
    refine wpAny_pure (hQ s.heap o ep t (Heap.SameBut.refl r s.heap) ⟨ho, hex, hd, hp, hdu, by rw [hm]; exact cov7, by rw [hm]; omega, hl⟩)
theorem merge_ok {ep0 : Nat} {t0 : SetTable} {o0 : Obj} {each : Sem Unit} {Q : Unit → Shared → Prop} (ho : s.heap.get? r = some o0) (hex : o0.ExactSet) (hd : o0.data = .set #[] ep0 t0) (hp : t0.place = #[]) (hdu : t0.dummies = #[]) (hm : t0.mask = 7)
    (hl : w.params.followText "set-order" = true ∨ t0.led = true) (R : SetR w s.heap a S n) (hne : a ≠ r) (hn : n < 16)
    (hQ : ∀ h', Heap.SameBut r s.heap h' → SetR w h' r S n → Q () { s with heap := h' }) : wpAny (model P w) A (setMerge r a each) Q E s := by
  obtain ⟨o, es, ep, t, hoa, hexa, hda, g, nd, hmm, hb, hf, hsz, hr, hla⟩ := R
  unfold setMerge
  refine wp_if_neg (by simpa using fun z : r = a => hne z.symm) ?_
  try refine wpAny_bind (wpAny_pure ?_)
  refine wpAny_bind (wpAny_setState_of hoa hda hf ?_)
  dsimp only
  by_cases he : es.isEmpty = true
  · refine wp_if_pos he ?_
    have e0 : es = #[] := by simpa using he
    subst e0
    refine wpAny_pure (hQ s.heap (Heap.SameBut.refl r s.heap) ⟨o0, #[], ep0, t0, ho, hex, hd, g, nd, hmm, hb, by unfold SetTable.fits SetTable.fill; rw [hp, hdu]; simp, hsz, by rw [hp]; exact List.Pairwise.nil, hl⟩)
  · refine wp_if_neg he ?_
    try refine wpAny_bind (wpAny_pure ?_)
    refine wpAny_bind (room_ok ho hex hd hp hdu hm hl (by rw [hsz]; exact hn) fun h1 o1 ep1 t1 sb Em => ?_)
    refine wpAny_bind (wpAny_setState_of (s := { s with heap := h1 }) Em.at_ Em.data Em.fits ?_)
    dsimp only
    have hfill : t1.fill = 0 := by unfold SetTable.fill; rw [Em.place, Em.dum]; rfl
    unfold SetTable.road
    rw [hfill]
    simp only [bne_self_eq_false, Bool.false_eq_true, ↓reduceIte]
    have room := Em.room
    by_cases hs : (t1.mask == t.mask && t.dummies.isEmpty) = true
    · rw [if_pos hs]
      dsimp only
      refine wpAny_storeSet_of (s := { s with heap := h1 }) Em.at_ Em.data ?_ (fits_of_scanBound hb)
      have ho2 := store_at (es' := es) (t' := { t with finger := t1.finger, led := t1.led && t.led, moves := t1.moves, plain := t1.plain && t.plain }) Em.at_ Em.data
      refine hQ _ (sb.trans (Heap.SameBut.update h1 r _)) ⟨_, es, _, _, ho2, Em.ex, rfl, g, nd, hmm, hb, hf, hsz, hr, ?_⟩
      rcases hla with z | z
      · exact .inl z
      · rcases Em.led with y | y
        · exact .inl y
        · exact .inr (by show (t1.led && t.led) = true; rw [z, y]; rfl)
    · rw [if_neg hs]
      dsimp only
      have hle : es.size ≤ t1.mask := room
      obtain ⟨t', order, e, L⟩ := laid_ok Em.cov (es.map (·.1)) (by rw [Array.size_map]; omega) t1.finger t1.moves (t1.led && t.led) (t1.plain && t.plain)
      rw [e]
      have hperm : (order.filterMap (es[·]?)).toList.Perm es.toList := by
        rw [Array.toList_filterMap]
        have := L.perm
        rw [Array.size_map] at this
        exact order_perm this
      have hsize : (order.filterMap (es[·]?)).size = es.size := by rw [← Array.length_toList, hperm.length_eq, Array.length_toList]
      refine wpAny_bind (wpAny_of_eq (a := (order.filterMap (es[·]?), t')) ?_ ?_)
      · show (if ((order.filterMap (es[·]?)).size != es.size) = true then _ else _) = pure (order.filterMap (es[·]?), t')
        rw [hsize]
        simp
      · dsimp only
        refine wpAny_storeSet_of (s := { s with heap := h1 }) Em.at_ Em.data ?_ (by rw [hsize]; exact fits_of_scanBound hb)
        have ho2 := store_at (es' := order.filterMap (es[·]?)) (t' := t') Em.at_ Em.data
        have ps : t'.place.size = es.size := by rw [L.size, Array.size_map]
        refine hQ _ (sb.trans (Heap.SameBut.update h1 r _)) ⟨_, _, _, t', ho2, Em.ex, rfl, fun e he => g e (hperm.mem_iff.mp he), (hperm.map keyOf).nodup_iff.mpr nd, fun k => (hmm k).trans (hperm.map keyOf).mem_iff.symm, by rw [hsize]; exact hb, ?_, by rw [hsize]; exact hsz, L.ris, ?_⟩
        · unfold SetTable.fits SetTable.fill
          rw [hsize, ps, L.dum, L.mask]
          simp
          exact hle
        · rw [L.led]
          rcases hla with z | z
          · exact .inl z
          · rcases Em.led with y | y
            · exact .inl y
            · exact .inr (by rw [z, y]; rfl)
end
end Zb
end
section
set_option Elab.async false
set_option linter.all false
set_option maxRecDepth 100000
set_option maxHeartbeats 4000000
/-! Zb3: set(list of ints), set ^ set as rules. -/
namespace Zb
open PySem PySem.Spec PyProof.Rows L2 SetTable
section
variable {P : Program} {w : World} {A : Around} {E : Value → Shared → Prop} {s : Shared}
/-- an empty set, just made -/
abbrev set0 (w : World) : Obj := { cls := .type "set", dict := none, data := .set #[] 0 (.fresh 0 0 (!w.params.followText "set-order")) }
abbrev laid0 (w : World) (s : Shared) : Shared := { s with heap := s.heap.push (set0 w) }
/-- set(x), by what its loop over x does -/
theorem call_set_by (x : Value) {Q : Value → Shared → Prop}
    (h : wpAny (model P w) A.in1.in1 (Builtin.«set.__init__» ⟨[.ref s.heap.objs.size, x], []⟩) (fun f s2 => f = .done (.ret .none) ∧ Q (.ref s.heap.objs.size) s2) E (laid0 w s)) : wpAny (model P w) A (call (.type "set") [x]) Q E s := by
  obtain ⟨c, tl, hmro⟩ := F.called_set.mro
  have hmade := F.called_set.made
  have hsub := F.called_set.sub
  have h1 := F.called_set.notType
  have h2 := F.called_set.canCreate
  have hct := F.typeCall_set_1 x
  have hS : (s.heap.push (set0 w)).get? s.heap.objs.size = some (set0 w) := Heap.get?_push_size _ rfl
  have hT : Shared.TypeIs (laid0 w s) (.ref s.heap.objs.size) "set" := ⟨_, hS, rfl⟩
  have hli := F.called_set.init.lookup
  have hbi := F.called_set.init.bind (.ref s.heap.objs.size)
  refine wpAny_call (codeAny_of_tree ?_)
  show wpAny _ _ (callAny (.type "set") _) _ _ _
  refine wpAny_pure ⟨Code.quiet_builtin _ (by decide +kernel), codeAny_builtin F.entry_type_call ?_⟩
  rw [Around.under_plain (weight_type_call_type "set" [x] []) rfl]
  repeat (any_goals (first | assumption | wp_step))
  refine codeAny_mono (code_set_led1 x (E := E) (Q₁ := fun obj s₁ => obj = .ref s.heap.objs.size ∧ s₁ = laid0 w s) ⟨rfl, rfl⟩) fun r s₁ hr => ?_
  cases r with
  | error e => exact hr
  | ok fl =>
    cases fl with
    | ret obj =>
      obtain ⟨rfl, rfl⟩ := hr
      repeat (any_goals (first | assumption | wp_step))
      refine codeAny_mono (codeAny_call_builtin (R := wants (fun r s₂ => r = .none ∧ Q (.ref s.heap.objs.size) s₂) E) F.called_set.init.plain F.entry_set_init (check_set_init_1 hT ?_)) fun r₂ s₂ hr₂ => ?_
      · refine wpAny_mono h (fun f s2 q => ?_) fun _ _ z => z
        obtain ⟨rfl, q⟩ := q
        exact ⟨rfl, q⟩
      · cases r₂ with
        | error e => exact hr₂
        | ok fl₂ =>
          cases fl₂ with
          | ret r =>
            obtain ⟨rfl, q⟩ := hr₂
            repeat (any_goals (first | assumption | wp_step))
          | _ => exact hr₂.elim
    | _ => exact hr.elim
/-- set(l) of a list of ints -/
theorem call_set_lstI {l : Addr} {items : Array Value} (ns : List Int) {Q : Value → Shared → Prop} (hh : A.handled = none) (hl : s.heap.IsList l items) (hit : IntsAre items.toList ns) (hb : ns.length + 1 < scanBound)
    (h : ∀ (h' : Heap) (tk c : Nat), SetR w h' s.heap.objs.size (fun j => decide (j ∈ ns)) c → c ≤ ns.length → (∀ b o, s.heap.get? b = some o → h'.get? b = some o) → Q (.ref s.heap.objs.size) { s with heap := h', toks := tk }) :
    wpAny (model P w) A (call (.type "set") [.ref l]) Q E s := by
  have hisz : items.size = ns.length := by
    have q := IntsAre.length hit
    rwa [Array.length_toList] at q
  refine call_set_by (.ref l) ?_
  have hS : (s.heap.push (set0 w)).get? s.heap.objs.size = some (set0 w) := Heap.get?_push_size _ rfl
  have hT : Shared.TypeIs (laid0 w s) (.ref s.heap.objs.size) "set" := ⟨_, hS, rfl⟩
  have hl1 : (laid0 w s).heap.IsList l items := hl.push _
  obtain ⟨ol, hol, hcl, nl, hdl⟩ := hl1
  have hTl : Shared.TypeIs (laid0 w s) (.ref l) "list" := ⟨ol, hol, hcl⟩
  have hl1 : (laid0 w s).heap.IsList l items := hl.push _
  have hlS : l < s.heap.objs.size := by obtain ⟨o, e, _⟩ := hl; exact Heap.lt_size e
  have hz : (laid0 w s).heap.objs.size = s.heap.objs.size + 1 := Heap.size_push ..
  have hsls := F.sub_list_set
  have hslf := F.sub_list_frozenset
  have hne : (Value.type "list" == Value.type "dict") = false := by decide
  unfold Builtin.«set.__init__» noKeywords Builtin.Frozenset.updateFrom
  generalize hPI : pyIter = PI
  wp_walk
  subst hPI
  refine wpAny_pyIter_list hl1 (wpAny_bind (wpAny_runValue ?_))
  have hneI : l ≠ (laid0 w s).heap.objs.size := by rw [hz]; exact Nat.ne_of_lt (Nat.lt_succ_of_lt hlS)
  refine set_update_ints ((Walks.list (by simp [hh]) _ l hneI items).toS) s.heap.objs.size (by rw [hz]; simp only [List.mem_cons, List.mem_singleton, List.not_mem_nil, or_false, not_or]; exact ⟨Nat.ne_of_lt (Nat.lt_succ_self _), Nat.ne_of_gt hlS⟩) ns hisz hb (fun i v hv => ?_) (items.size - 0) 0 _ (by omega) (Nat.zero_le _)
    ⟨⟨_, Heap.get?_push_size _ rfl, rfl, rfl⟩, (hl1.push _)⟩ ⟨0, Nat.le_refl 0, setR_new_at (Heap.get?_push_of_some _ hS)⟩ fun s' c' hm hc' hS' => ?_
  · have hi : i < ns.length := by rw [← hisz]; exact (Array.getElem?_eq_some_iff.mp hv).1
    obtain ⟨t, e⟩ := PyProof.Rows.IntsAre.int_at hit i v (by rw [Array.getElem?_toList]; exact hv)
    exact ⟨ns[i], t, List.getElem?_eq_getElem hi, by rw [e, List.getD_eq_getElem?_getD, List.getElem?_eq_getElem hi]; rfl⟩
  · obtain ⟨h', g2, d', tk', os'⟩ := s'
    obtain rfl : g2 = s.gens := hm.gens
    obtain rfl : d' = s.drawn := hm.drawn
    obtain rfl : os' = s.os := hm.os
    refine wpAny_pure (wpAny_pure ⟨rfl, h h' tk' c' hS' (by rw [← hisz]; exact hc') fun b o e => ?_⟩)
    have hb0 := Heap.lt_size e
    refine hm.heap b o ?_ (Heap.get?_push_of_some _ (Heap.get?_push_of_some _ e))
    rw [hz]
    simp only [List.mem_cons, List.mem_singleton, List.not_mem_nil, or_false, not_or]
    exact ⟨Nat.ne_of_lt hb0, Nat.ne_of_lt (Nat.lt_succ_of_lt hb0)⟩

/-! ### a ^ b -/
theorem entry_xor : entryFor table "set.__xor__" = some Builtin.«frozenset.__xor__» := entryFor_alias (id' := "frozenset.__xor__") (by kernel_rfl) rfl (by decide +kernel) (by kernel_rfl)
theorem any_ok {a : Addr} {S : Int → Bool} {n : Nat} {Q : Bool → Shared → Prop} (R : SetR w s.heap a S n) (q : Q true s) : wpAny (model P w) A (Builtin.Frozenset.isAnySet (.ref a)) Q E s := by
  have hTa : s.TypeIs (.ref a) "set" := by obtain ⟨o, _, _, _, ho, hex, _⟩ := R; exact ⟨o, ho, hex.1⟩
  unfold Builtin.Frozenset.isAnySet orM
  refine wpAny_bind (wpAny_isInstance (b := true) hTa sub_set_self ?_)
  exact wpAny_pure q
theorem code_xor {a b : Addr} {S T : Int → Bool} {n m : Nat} {Q : Fin → Shared → Prop} (R : SetR w s.heap a S n) (R2 : SetR w s.heap b T m) (hn : n < 16) (hm : m < 16)
    (h : ∀ h' c, SetR w h' s.heap.objs.size (fun k => T k != S k) c → c ≤ n + m → (∀ b o, s.heap.get? b = some o → h'.get? b = some o) → Q (.done (.ret (.ref s.heap.objs.size))) { s with heap := h' }) :
    wpAny (model P w) A (Builtin.«frozenset.__xor__» ⟨[.ref a, .ref b], []⟩) Q E s := by
  have hTa : s.TypeIs (.ref a) "set" := by obtain ⟨o, _, _, _, ho, hex, _⟩ := R; exact ⟨o, ho, hex.1⟩
  have hsb : scanBound = 4096 := rfl
  show wpAny _ _ (Builtin.Frozenset.slot1 "__xor__" ⟨[.ref a, .ref b], []⟩ >>= _) _ _ _
  unfold Builtin.Frozenset.slot1
  refine wpAny_bind (wpAny_bind (wpAny_of_eq (a := ((Value.ref a : Value), [Value.ref b])) (by first | rfl | (simp only [slotArgs]; rfl)) ?_))
  refine wpAny_pure ?_
  dsimp only
  refine wpAny_bind (m := Builtin.Frozenset.isAnySet (.ref a) <&&> Builtin.Frozenset.isAnySet (.ref b)) ?_
  unfold andM
  refine wpAny_bind (any_ok R ?_)
  show wpAny _ _ (Builtin.Frozenset.isAnySet (.ref b)) _ _ _
  refine any_ok R2 ?_
  refine wp_if_neg (by decide) ?_
  refine wpAny_bind (m := Builtin.Frozenset.addrOf (.ref a)) (wpAny_pure ?_)
  refine wpAny_bind (m := (do
    let result ← Builtin.Frozenset.newFrom "frozenset.__xor__" (← Builtin.Frozenset.baseOf a) (.ref b)
    holding [result] (Builtin.Frozenset.symmetricDifferenceUpdate "frozenset.__xor__" (← Builtin.Frozenset.addrOf result) (.ref a))
    return result)) ?_
  unfold Builtin.Frozenset.baseOf Builtin.Frozenset.newFrom
  refine wpAny_bind (wpAny_bind (wpAny_isInstance (b := true) hTa sub_set_self (wpAny_pure ?_)))
  rw [if_pos rfl]
  refine wpAny_bind (wpAny_bind (PpSet.newSet_ok ?_))
  have k1 : ∀ b o, s.heap.get? b = some o → (laid0 w s).heap.get? b = some o := fun b o e => Heap.get?_push_of_some _ e
  have Ra : SetR w (laid0 w s).heap a S n := R.at (k1 a)
  have Rb : SetR w (laid0 w s).heap b T m := R2.at (k1 b)
  have na : ∀ {x : Addr} {U : Int → Bool} {c : Nat}, SetR w s.heap x U c → x ≠ s.heap.objs.size := fun {x U c} q => Nat.ne_of_lt q.lt
  refine wpAny_bind (m := Builtin.Frozenset.addrOf (.ref s.heap.objs.size)) (wpAny_pure ?_)
  refine wpAny_bind (wpAny_holding ?_)
  unfold Builtin.Frozenset.updateFrom
  refine wpAny_bind (any_ok (s := laid0 w s) Rb ?_)
  refine wp_if_pos rfl ?_
  refine wpAny_bind (m := Builtin.Frozenset.addrOf (.ref b)) (wpAny_pure ?_)
  unfold Builtin.Frozenset.merge
  have Rb0 := Rb
  obtain ⟨ob, esb, epb, tb, hob, hexb, hdb, _, _, _, _, hfb, _⟩ := Rb0
  refine wpAny_bind (wpAny_setEpoch_of (s := laid0 w s) hob hdb hfb ?_)
  refine merge_ok (s := laid0 w s) (r := s.heap.objs.size) (o0 := set0 w) (ep0 := 0) (Heap.get?_push_size _ rfl) ⟨rfl, rfl, rfl⟩ rfl rfl rfl rfl ?_ Rb (na R2) hm fun h1 sb1 R3 => ?_
  · show _ ∨ (!w.params.followText "set-order") = true
    cases w.params.followText "set-order"
    · exact .inr rfl
    · exact .inl rfl
  refine wpAny_pure ?_
  refine wpAny_bind (m := Builtin.Frozenset.addrOf (.ref s.heap.objs.size)) (wpAny_pure ?_)
  refine wpAny_bind (wpAny_holding ?_)
  have Ra1 : SetR w h1 a S n := Ra.at fun o e => (sb1.2 a (na R)).trans e
  refine sym_ok (s := { s with heap := h1 }) Ra1 R3 (na R) (by rw [hsb]; omega) fun h2 c sb2 R4 hc => ?_
  refine wpAny_pure (wpAny_pure (h h2 c R4 hc fun x o e => ?_))
  have hx : x ≠ s.heap.objs.size := Nat.ne_of_lt (Heap.lt_size e)
  exact (sb2.2 x hx).trans ((sb1.2 x hx).trans (k1 x o e))
end
section
variable {X : Cx}
/-- a ^ b of sets of ints -/
def rXor (w : World) : V → V → Hp → VK → Prop := fun x y H Q => ∃ a b S T n m, x = .ref a ∧ y = .ref b ∧ H a = some (SetO w a S n) ∧ H b = some (SetO w b T m) ∧ n < 16 ∧ m < 16 ∧
  ∀ p c, H p = none → c ≤ n + m → Q (.ref p) (upd H p (SetO w p (fun k => T k != S k) c))
theorem op_xor : OpR X (binaryOp .BitXor) (rXor X.w) := by
  intro pins s σ H x y v u Q I rx ry h
  obtain ⟨a, b, S, T, n, m, rfl, rfl, ha, hb, hn, hm, q⟩ := h
  cases rx
  cases ry
  have R := setO_get I ha
  have R2 := setO_get I hb
  have hT : ∀ {a : Addr} {S : Int → Bool} {n : Nat}, SetR X.w s.heap a S n → s.TypeIs (.ref a) "set" := fun {a S n} R => by obtain ⟨o, _, _, _, ho, hex, _⟩ := R; exact ⟨o, ho, hex.1⟩
  refine wpAny_binaryOp_same (op := .BitXor) (T := "set") (hT R) (hT R2) F.fills_set_xor F.slot_set_xor ?_
  refine wpAny_call_entry F.slot_set_xor (hT R) entry_xor ?_ (F.args_set_xor_2 _ _)
  refine code_xor R R2 hn hm fun h' c R3 hc k => ?_
  exact ⟨_, rfl, (fun z => nomatch z), .ref _, _, I.laid (t' := s.toks) k (Nat.le_refl _) (setO_new R3), rfl, q _ c (I.hok.fresh (Nat.le_refl _)) hc⟩
/-- set(l), l a list of ints -/
def rSetL (K : PySem.W.Frag) (w : World) : List V → Hp → VK → Prop := fun xs H Q => ∃ (a : Addr) (ns : List Int), xs = [.ref a] ∧ SqL K H a (ns.map V.int) ∧ ns.length ≤ 1000 ∧
  ∀ p c, H p = none → c ≤ ns.length → Q (.ref p) (upd H p (SetO w p (fun k => decide (k ∈ ns)) c))
theorem cr_setL (hc : X.calm = true) : CallR X (.type "set") (rSetL X.K X.w) := by
  intro pins s σ H xs us Q I r h
  obtain ⟨a, ns, rfl, hq, hl, q⟩ := h
  cases r with
  | cons r rr =>
    cases rr
    cases r
    obtain ⟨its, rv, pt, hz⟩ := I.list hq
    have hi : IntsAre its.toArray.toList ns := ints_of_vals rv
    refine call_set_lstI ns (I.ok.hd hc) (show s.heap.IsList a its.toArray from by obtain ⟨o, n, h1, h2, _, h4⟩ := pt; exact ⟨o, h1, h2, n, h4⟩) hi (by unfold scanBound; omega) fun h' tk c R1 hcn k => ?_
    exact ⟨.ref _, _, I.laid (t' := tk) k (Nat.le_refl _) (setO_new R1), rfl, q _ c (I.hok.fresh (Nat.le_refl _)) hcn⟩
end
end Zb
end
section
set_option Elab.async false
set_option linter.all false
set_option maxRecDepth 100000
set_option maxHeartbeats 2000000
namespace Za
open PySem PySem.Spec PyProof.Rows L2

/-! ### sorted(set(a) ^ set(b)), a and b names -/
def dedI : List Int → List Int
  | [] => []
  | x :: r => if x ∈ r then dedI r else x :: dedI r
theorem mem_dedI {k : Int} : ∀ {l : List Int}, k ∈ dedI l ↔ k ∈ l
  | [] => by simp [dedI]
  | x :: r => by
    unfold dedI
    by_cases h : x ∈ r
    · rw [if_pos h, mem_dedI]
      exact ⟨fun z => List.mem_cons_of_mem _ z, fun z => (List.mem_cons.mp z).elim (fun e => e ▸ h) id⟩
    · rw [if_neg h, List.mem_cons, List.mem_cons, mem_dedI]
theorem nodup_dedI : ∀ {l : List Int}, (dedI l).Nodup
  | [] => by simp [dedI]
  | x :: r => by
    unfold dedI
    by_cases h : x ∈ r
    · rw [if_pos h]; exact nodup_dedI
    · rw [if_neg h]; exact List.nodup_cons.mpr ⟨fun z => h (mem_dedI.mp z), nodup_dedI⟩
def symI (as bs : List Int) : List Int := sortI (dedI (as.filter (fun k => !bs.contains k) ++ bs.filter (fun k => !as.contains k)))
theorem strict_uniq : ∀ {l m : List Int}, l.Pairwise (· < ·) → m.Pairwise (· < ·) → (∀ k, k ∈ l ↔ k ∈ m) → l = m
  | [], [], _, _, _ => rfl
  | [], y :: m, _, _, h => by have := (h y).mpr List.mem_cons_self; simp at this
  | x :: l, [], _, _, h => by have := (h x).mp List.mem_cons_self; simp at this
  | x :: l, y :: m, h1, h2, h => by
    obtain ⟨a1, a2⟩ := List.pairwise_cons.mp h1
    obtain ⟨b1, b2⟩ := List.pairwise_cons.mp h2
    have e : x = y := by
      rcases List.mem_cons.mp ((h x).mp List.mem_cons_self) with q | q
      · exact q
      · rcases List.mem_cons.mp ((h y).mpr List.mem_cons_self) with q' | q'
        · exact q'.symm
        · have := a1 y q'; have := b1 x q; omega
    subst e
    rw [strict_uniq a2 b2 fun k => ?_]
    have hk := h k
    rw [List.mem_cons, List.mem_cons] at hk
    exact ⟨fun z => (hk.mp (.inr z)).elim (fun e => by subst e; have := a1 k z; omega) id, fun z => (hk.mpr (.inr z)).elim (fun e => by subst e; have := b1 k z; omega) id⟩
theorem mem_symI {as bs : List Int} {k : Int} : k ∈ symI as bs ↔ ((k ∈ as ∧ k ∉ bs) ∨ (k ∈ bs ∧ k ∉ as)) := by
  unfold symI
  rw [(sortI_perm _).mem_iff, mem_dedI, List.mem_append, List.mem_filter, List.mem_filter]
  simp
theorem symI_strict (as bs : List Int) : (symI as bs).Pairwise (· < ·) := by
  have h1 := sortI_sorted (dedI (as.filter (fun k => !bs.contains k) ++ bs.filter (fun k => !as.contains k)))
  have h2 : (symI as bs).Nodup := (sortI_perm _).nodup_iff.mpr nodup_dedI
  exact lt_of_le_nodup _ h1 h2
def slotInts (sl : List Slot) (i : Nat) : Option (List Int) := match sl[i]? with
  | some (.val (.lst ds)) => intsD ds
  | some (.own (.lst ds)) => intsD ds
  | some (.io (.lst ds)) => intsD ds
  | some (.lock _ (.lst ds)) => intsD ds
  | _ => none
def eXor (i j : Nat) : EM := fun sl => match slotInts sl i, slotInts sl j with
  | some as, some bs => if as.length < 16 ∧ bs.length < 16 then .ok (.n (.lst ((symI as bs).map D.int))) sl else .bad
  | _, _ => .bad
section
variable {g : G0} {B : Base} {F H : Hp} {σ : St} {sl : List Slot}
theorem slotInts_ok (G : Good g B F H σ sl) {i : Nat} {ns : List Int} (e : slotInts sl i = some ns) : ∃ a, σ[i]? = some (some (.ref a)) ∧ H a = some (.lst (ns.map V.int)) := by
  unfold slotInts at e
  have fin : ∀ {a : Addr} {ds : List D} {xs : List V}, intsD ds = some ns → H a = some (.lst xs) → Reps g F xs ds → H a = some (.lst (ns.map V.int)) := fun {a ds xs} e1 h r => by
    rw [intsD_eq e1] at r
    rw [h, r.of_ints]
  cases q : sl[i]? with
  | none => rw [q] at e; cases e
  | some s =>
    rw [q] at e
    have z := G.slot i s q
    cases s with
    | val d =>
      cases d with
      | lst ds =>
        obtain ⟨v, h1, r⟩ := z
        cases r with
        | lst h r => exact ⟨_, h1, fin e (G.sub _ _ h) r⟩
      | _ => cases e
    | own d =>
      cases d with
      | lst ds =>
        obtain ⟨a, h1, _, _, c⟩ := z
        cases c with
        | lst h r => exact ⟨_, h1, fin e h r⟩
      | _ => cases e
    | io d =>
      cases d with
      | lst ds =>
        obtain ⟨a, h1, _, _, c⟩ := z
        cases c with
        | lst h r => exact ⟨_, h1, fin e h r⟩
      | _ => cases e
    | lock b d =>
      cases d with
      | lst ds =>
        obtain ⟨a, h1, _, _, c⟩ := z
        cases c with
        | lst h r => exact ⟨_, h1, fin e h r⟩
      | _ => cases e
    | _ => cases e
end
theorem se_xor {cA : Nat → Addr} {X : Cx} {x y : Str} {p1 p2 p3 p4 p5 q1 q2 q3 : Pos} (i j : Nat) (hc : X.calm = true) (hgs : L2.Gl X "sorted") (hms : X.mg "sorted" = none) (hbs : bootBuiltins "sorted" = some (.builtin "sorted"))
    (hgt : L2.Gl X "set") (hmt : X.mg "set" = none) (hbt : bootBuiltins "set" = some (.type "set"))
    (hNx : X.N[i]? = some x := by rfl) (hvx : Vis X.env.scope x := by first | exact Or.inl rfl | exact Or.inr (Or.inl rfl) | exact Or.inr (Or.inr rfl)) (hNy : X.N[j]? = some y := by rfl) (hvy : Vis X.env.scope y := by first | exact Or.inl rfl | exact Or.inr (Or.inl rfl) | exact Or.inr (Or.inr rfl))
    (hd1 : (x == ("__debug__" : Str)) = false := by decide) (hd2 : (x == ("__classdict__" : Str)) = false := by decide) (hd3 : (y == ("__debug__" : Str)) = false := by decide) (hd4 : (y == ("__classdict__" : Str)) = false := by decide)
    (hsx : starEach [.Name x p3] X.env = (false, eval (.Name x p3) X.env) :: starEach [] X.env := by rfl) (hsy : starEach [.Name y p5] X.env = (false, eval (.Name y p5) X.env) :: starEach [] X.env := by rfl)
    (hss : starEach [.BinOp (.Call (.Name "set" p2) [.Name x p3] [] q1) .BitXor (.Call (.Name "set" p4) [.Name y p5] [] q2) q3] X.env = (false, eval (.BinOp (.Call (.Name "set" p2) [.Name x p3] [] q1) .BitXor (.Call (.Name "set" p4) [.Name y p5] [] q2) q3) X.env) :: starEach [] X.env := by rfl) {q4 : Pos} :
    SE cA X (eXor i j) (.Call (.Name "sorted" p1) [.BinOp (.Call (.Name "set" p2) [.Name x p3] [] q1) .BitXor (.Call (.Name "set" p4) [.Name y p5] [] q2) q3] [] q4) := by
  have A1 := pe_callTy (X := X) (Zb.cr_setL hc) hgt hmt hbt (pa_cons (pe_var (pos := p3) hNx hvx hd1 hd2) pa_nil hsx) (by decide) (by decide) (p := p2) (pos := q1) hsx
  have A2 := pe_callTy (X := X) (Zb.cr_setL hc) hgt hmt hbt (pa_cons (pe_var (pos := p5) hNy hvy hd3 hd4) pa_nil hsy) (by decide) (by decide) (p := p4) (pos := q2) hsy
  have A3 := pe_op (pos := q3) (Zb.op_xor (X := X)) A1 A2
  have A4 := pe_callB (X := X) (cr_sortedSet hc) hgs hms hbs (pa_cons A3 pa_nil hss) (by decide) (by decide) (p := p1) (pos := q4) hss
  refine ⟨fun B W tk => A4.of fun σ H Q ⟨F, sl, G, p⟩ => ?_⟩
  simp only [eXor] at p
  cases ei : slotInts sl i with
  | none => simp only [ei] at p; exact p.elim
  | some as =>
    cases ej : slotInts sl j with
    | none => simp only [ei, ej] at p; exact p.elim
    | some bs =>
      simp only [ei, ej] at p
      by_cases hl : as.length < 16 ∧ bs.length < 16
      · rw [if_pos hl] at p
        obtain ⟨a, h1, h2⟩ := slotInts_ok G ei
        obtain ⟨b, h3, h4⟩ := slotInts_ok G ej
        refine ⟨.ref a, h1, a, as, rfl, SqL.of h2, by omega, fun p1 c1 n1 hc1 => ?_⟩
        have G1 : Good _ B F (upd H p1 (SetO X.w p1 (fun k => decide (k ∈ as)) c1)) σ sl := G.ext' (Ext.laid G.sub n1)
        have h4' : upd H p1 (SetO X.w p1 (fun k => decide (k ∈ as)) c1) b = some (.lst (bs.map V.int)) := by rw [upd_ne (ne_of_none h4 n1)]; exact h4
        refine ⟨.ref b, h3, b, bs, rfl, SqL.of h4', by omega, fun p2 c2 n2 hc2 => ?_⟩
        have G2 := G1.ext' (Ext.laid (o := SetO X.w p2 (fun k => decide (k ∈ bs)) c2) G1.sub n2)
        refine ⟨p1, p2, _, _, c1, c2, rfl, rfl, by rw [upd_ne (ne_of_none upd_same n2), upd_same], upd_same, by omega, by omega, fun p3 c3 n3 hc3 => ?_⟩
        have G3 := G2.ext' (Ext.laid (o := SetO X.w p3 (fun k => decide (k ∈ bs) != decide (k ∈ as)) c3) G2.sub n3)
        refine ⟨p3, _, c3, rfl, upd_same, by omega, fun ns p4 hs hm hlen n4 => ?_⟩
        have e : ns = symI as bs := strict_uniq hs (symI_strict as bs) fun k => by
          rw [hm k, mem_symI]
          by_cases z1 : k ∈ as <;> by_cases z2 : k ∈ bs <;> simp [z1, z2]
        subst e
        have n4F : F p4 = none := le_none G3.sub n4
        have G4 := G3.ext' (Ext.laid (o := HO.lst ((symI as bs).map V.int)) G3.sub n4)
        refine p (.ref p4) F _ (.refl _) G4 ⟨p4, rfl, n4F, G3.freshH0 n4, G3.mineNe n4, .lst upd_same (Reps.ints _)⟩
      · rw [if_neg hl] at p; exact p.elim
end Za
end
section
set_option Elab.async false
set_option linter.all false
set_option maxRecDepth 100000
set_option maxHeartbeats 2000000
namespace Za
open PySem PySem.Spec PyProof.Rows L2

/-! ### return (.., x, ..), x an object of one's own that is not named again -/
def shKids (mv : List Nat) : List AV → List Slot → Option (List Kid × List Slot)
  | [], sl => some ([], sl)
  | .v d :: as, sl => (shKids mv as sl).map fun r => (.fz d :: r.1, r.2)
  | .s i :: as, sl => (match sl[i]? with
    | some (.own d) => if mv.contains i then (shKids mv as (sl.set i .emp)).map fun r => (.ow d :: r.1, r.2) else none
    | _ => none)
  | _, _ => none
def sRetM (mv : List Nat) (l : LM) : SM := fun sl => match l sl with
  | .ok as sl1 => if as.length ≤ most then (match shKids mv as sl1 with
    | some (ks, sl2) => .retM false ks sl2
    | none => .bad) else .bad
  | .err c ns vs sl' => .err c ns vs sl'
  | .bad => .bad
section mv
variable {cA : Nat → Addr} {X : Cx} {g : G0} {B : Base} {W : WX} {F F' H H' : Hp} {σ : St} {sl sl' : List Slot} {Q : VK} {D : Ends}
/-- what is known of a slot is forgotten -/
theorem Good.forget (G : Good g B F H σ sl) (i : Nat) : Good g B F H σ (sl.set i .emp) := by
  by_cases hi : i < sl.length
  · have hs : i < σ.length := by rw [G.len]; exact hi
    have e : σ.set i (σ[i]) = σ := List.set_getElem_self hs
    have := G.setEmp (i := i) (x := σ[i]) hi
    rw [e] at this
    exact this
  · rw [List.set_eq_of_length_le (by omega)]; exact G
theorem mine_forget {i j : Nat} {a : Addr} (m : Mine F σ (sl.set i .emp) j a) : j ≠ i ∧ Mine F σ sl j a := by
  by_cases hi : i < sl.length
  · have ne : j ≠ i := fun z => by
      subst z
      rcases m with ⟨⟨s, d, h1, h2⟩, _⟩ | ⟨ls, ks, q, xs, h1, _⟩
      · rw [List.getElem?_set_self hi] at h1; cases h1; cases h2
      · rw [List.getElem?_set_self hi] at h1; cases h1
    refine ⟨ne, ?_⟩
    rcases m with ⟨⟨s, d, h1, h2⟩, h3⟩ | ⟨ls, ks, q, xs, h1, h3⟩
    · rw [List.getElem?_set_ne (Ne.symm ne)] at h1; exact .inl ⟨⟨s, d, h1, h2⟩, h3⟩
    · rw [List.getElem?_set_ne (Ne.symm ne)] at h1; exact .inr ⟨ls, ks, q, xs, h1, h3⟩
  · rw [List.set_eq_of_length_le (by omega)] at m
    refine ⟨fun z => ?_, m⟩
    subst z
    rcases m with ⟨⟨s, d, h1, h2⟩, _⟩ | ⟨ls, ks, q, xs, h1, _⟩
    · exact hi (List.getElem?_eq_some_iff.mp h1).1
    · exact hi (List.getElem?_eq_some_iff.mp h1).1
theorem shKids_ok {mv : List Nat} : ∀ {as : List AV} {vs : List V} {sl sl' : List Slot} {ks : List Kid}, Good g B F H σ sl → AVs g B F H σ sl vs as → shKids mv as sl = some (ks, sl') →
    Good g B F H σ sl' ∧ vs.length = ks.length ∧ (∀ (k : Nat) (v : V) (kd : Kid), vs[k]? = some v → ks[k]? = some kd → KidOk g F H v kd) ∧
    (∀ (k l : Nat) (d e : Za.D) (a : Addr), ks[k]? = some (.ow d) → ks[l]? = some (.ow e) → vs[k]? = some (.ref a) → vs[l]? = some (.ref a) → k = l) ∧
    (∀ a, KidA vs ks a → (∃ i, Mine F σ sl i a) ∧ (B.H0 a = none ∨ a ∈ B.A) ∧ ∀ i b, Mine F σ sl' i b → b ≠ a) ∧ ∀ i b, Mine F σ sl' i b → Mine F σ sl i b := by
  intro as
  induction as with
  | nil =>
    intro vs sl sl' ks G x e
    cases x
    cases e
    exact ⟨G, rfl, fun k v kd h => by simp at h, fun k l d e a h => by simp at h, fun a ⟨k, d, h, _⟩ => by simp at h, fun _ _ m => m⟩
  | cons a0 as ih =>
    intro vs sl sl' ks G x e
    cases x with
    | @cons v _ vs' _ xa xs =>
      cases a0 with
      | v d =>
        unfold shKids at e
        obtain ⟨⟨ks', s2⟩, e1, e2⟩ := Option.map_eq_some_iff.mp e
        cases e2
        obtain ⟨G', hl, ok, inj, own, bk⟩ := ih G xs e1
        refine ⟨G', by simp [hl], fun k v' kd h1 h2 => ?_, fun k l d1 d2 b h1 h2 h3 h4 => ?_, fun b ⟨k, d1, h1, h2⟩ => ?_, bk⟩
        · cases k with
          | zero => simp at h1 h2; subst h1; subst h2; exact xa
          | succ k => exact ok k v' kd (by simpa using h1) (by simpa using h2)
        · cases k with
          | zero => simp at h1
          | succ k =>
            cases l with
            | zero => simp at h2
            | succ l => rw [inj k l d1 d2 b (by simpa using h1) (by simpa using h2) (by simpa using h3) (by simpa using h4)]
        · cases k with
          | zero => simp at h1
          | succ k => exact own b ⟨k, d1, by simpa using h1, by simpa using h2⟩
      | s i =>
        unfold shKids at e
        cases es : sl[i]? with
        | none => rw [es] at e; cases e
        | some s0 =>
          rw [es] at e
          cases s0 with
          | own d =>
            dsimp only at e
            by_cases hm : mv.contains i = true
            · rw [if_pos hm] at e
              obtain ⟨⟨ks', s2⟩, e1, e2⟩ := Option.map_eq_some_iff.mp e
              cases e2
              obtain ⟨ad, mi, ha, nF, c⟩ := G.mineAt es rfl
              obtain ⟨a', ev, ea⟩ := xa
              subst ev
              rw [ha] at ea; cases ea
              have xs' : AVs g B F H σ (sl.set i .emp) vs' as := by
                clear e e1 ih
                induction xs with
                | nil => exact .nil
                | cons y ys ihy =>
                  refine .cons ?_ ihy
                  rename_i w b _ _
                  cases b with
                  | v d => exact y
                  | s j => exact y
                  | p j k => exact y
                  | n d => obtain ⟨q, z1, z2, z3, z4, z5⟩ := y; exact ⟨q, z1, z2, z3, fun j b m => z4 j b (mine_forget m).2, z5⟩
                  | t ls ks => obtain ⟨q, xs, z1, z2, z3, z4, z5⟩ := y; exact ⟨q, xs, z1, z2, z3, z4, fun a ka => ⟨(z5 a ka).1, fun j b m => (z5 a ka).2 j b (mine_forget m).2⟩⟩
              obtain ⟨G', hl, ok, inj, own, bk⟩ := ih (G.forget i) xs' e1
              have notIn : ∀ a, KidA vs' ks' a → a ≠ ad := fun a ka z => by
                obtain ⟨⟨j, m⟩, _⟩ := own a ka
                obtain ⟨ne, m'⟩ := mine_forget m
                exact G.apart j i a ad ne m' mi z
              refine ⟨G', by simp [hl], fun k v' kd h1 h2 => ?_, fun k l d1 d2 b h1 h2 h3 h4 => ?_, fun b ⟨k, d1, h1, h2⟩ => ?_, fun j b m => (mine_forget (bk j b m)).2⟩
              · cases k with
                | zero => simp at h1 h2; subst h1; subst h2; exact ⟨ad, rfl, nF, c⟩
                | succ k => exact ok k v' kd (by simpa using h1) (by simpa using h2)
              · cases k with
                | zero =>
                  cases l with
                  | zero => rfl
                  | succ l => simp at h3; exact absurd h3.symm (notIn b ⟨l, d2, by simpa using h2, by simpa using h4⟩)
                | succ k =>
                  cases l with
                  | zero => simp at h4; exact absurd h4.symm (notIn b ⟨k, d1, by simpa using h1, by simpa using h3⟩)
                  | succ l => rw [inj k l d1 d2 b (by simpa using h1) (by simpa using h2) (by simpa using h3) (by simpa using h4)]
              · cases k with
                | zero =>
                  simp at h2
                  subst h2
                  refine ⟨⟨i, mi⟩, G.mineOwn mi, fun j b m z => ?_⟩
                  obtain ⟨ne, m'⟩ := mine_forget (bk j b m)
                  exact G.apart j i b ad ne m' mi z
                | succ k =>
                  obtain ⟨⟨j, m⟩, w⟩ := own b ⟨k, d1, by simpa using h1, by simpa using h2⟩
                  exact ⟨⟨j, (mine_forget m).2⟩, w⟩
            · rw [if_neg hm] at e; cases e
          | _ => cases e
      | n d => cases e
      | t ls ks => cases e
      | p i k => cases e
theorem retM_imp {mv : List Nat} {l : LM} (h : tS g B W (sRetM mv l) D σ H) : tRet (tTup (tL g B W l)) D σ H := by
  obtain ⟨F, sl, G, p⟩ := h
  refine ⟨F, sl, G, ?_⟩
  unfold sRetM at p
  cases e : l sl with
  | bad => rw [e] at p; exact p
  | err c ns vs sl' => rw [e] at p; exact p σ
  | ok as sl1 =>
    rw [e] at p
    dsimp only at p
    intro vs F' H' le G' xs
    by_cases hl : as.length ≤ most
    · rw [if_pos hl] at p
      cases e2 : shKids mv as sl1 with
      | none => rw [e2] at p; exact p.elim
      | some r =>
        obtain ⟨ks, sl2⟩ := r
        rw [e2] at p
        dsimp only at p
        have lv : vs.length = as.length := by
          clear e2 p e hl
          induction xs with
          | nil => rfl
          | cons _ _ ih => simp [ih]
        obtain ⟨G2, hlen, ok, inj, own, bk⟩ := shKids_ok G' xs e2
        refine ⟨by rw [lv]; exact most_line hl, fun q hq => ?_⟩
        have x : Ext F' H' (upd F' q (.tup vs)) (upd H' q (.tup vs)) := Ext.frozen G'.sub hq
        have G3 := G2.ext' x
        refine p _ σ _ _ (le.trans x.f) G3 ⟨q, vs, rfl, by unfold ShellO; rw [upd_same]; rfl, G2.freshH0 hq, (⟨hlen, ok, inj⟩ : Kids g F' H' vs ks).mono x.f fun a ka => ?_, fun a ka => ?_⟩
        · obtain ⟨n, d, c⟩ := (⟨hlen, ok, inj⟩ : Kids g F' H' vs ks).own ka
          obtain ⟨o, ho, _⟩ := c.obj'
          exact ⟨x.non ho n, (x.h _ _ ho).trans ho.symm⟩
        · obtain ⟨_, w1, w2⟩ := own a ka
          exact ⟨w1, fun i b m => w2 i b (G2.mineBack x.f m)⟩
    · rw [if_neg hl] at p; exact p.elim
theorem ss_retM {mv : List Nat} {l : LM} {x1 : Nat} {es : List Expr} {p2 pos : Pos} (h : SL cA X l es) : SS cA X (sRetM mv l) (.Return (some (.Tuple es x1 p2)) pos) :=
  ⟨fun B W tk => (ps_ret (pe_tup (h.run B W tk))).of fun _ _ _ h => retM_imp h⟩
end mv

/-! ### name = ..: a shell; another name of a kid; an object of one's own (ow) or a value -/
def noAl (sl : List Slot) (i : Nat) : Bool := sl.all fun s => match s with
  | .al j _ => j != i
  | _ => true
def setX (ow : Bool) (i : Nat) (a : AV) (sl : List Slot) : SR := match a with
  | .t ls ks => if storable sl i && noAl sl i then .nx (sl.set i (.sh ls ks)) else .bad
  | .p j k => if storable sl i && i != j then .nx (sl.set i (.al j k)) else .bad
  | .n d => if storable sl i then .nx (sl.set i (if ow then .own d else .val d)) else .bad
  | .v d => if storable sl i then .nx (sl.set i (.val d)) else .bad
  | .s _ => .bad
section sx
variable {cA : Nat → Addr} {X : Cx} {g : G0} {B : Base} {W : WX} {F F' H H' : Hp} {σ : St} {sl sl' : List Slot} {Q : VK} {D : Ends}
theorem noAl_at {i j k : Nat} (h : noAl sl i = true) : sl[j]? ≠ some (.al i k) := fun e => by
  have := List.all_eq_true.mp h _ (List.mem_of_getElem? e)
  simp at this
theorem putX' {ow : Bool} {i : Nat} : PutOk g (setX ow i) i := fun B W F H σ sl D a v G x p => by
  cases a with
  | s j => exact p.elim
  | v d =>
    unfold setX at p
    by_cases h : storable sl i = true
    · simp only [h, if_true] at p; exact p _ F H (.refl _) (G.setVal (storable_lt h) x)
    · simp only [h] at p; exact p.elim
  | n d =>
    unfold setX at p
    by_cases h : storable sl i = true
    · simp only [h, if_true] at p
      cases ow with
      | true => exact p _ F H (.refl _) (G.setOwn (storable_lt h) x)
      | false =>
        obtain ⟨F2, le2, G2, x2⟩ := x.frz G
        exact p _ F2 H le2 (G2.setVal (storable_lt h) x2)
    · simp only [h] at p; exact p.elim
  | p j k =>
    unfold setX at p
    by_cases h : (storable sl i && i != j) = true
    · simp only [h, if_true] at p
      obtain ⟨h1, h2⟩ := Bool.and_eq_true_iff.mp h
      have ne : i ≠ j := by simpa using h2
      have hi := storable_lt h1
      obtain ⟨ls, q, xs, e1, e2, e3⟩ := x
      refine p _ F H (.refl _) (G.setSlot (s := .al j k) hi trivial (fun a m => ?_) (fun j' k' ls' ks' z w _ => ?_) (fun _ _ _ _ z => nomatch z))
      · rcases m with ⟨⟨s, d', h1, h2⟩, _⟩ | ⟨_, _, _, _, h1, _⟩
        · rw [List.getElem?_set_self hi] at h1; cases h1; cases h2
        · rw [List.getElem?_set_self hi] at h1; cases h1
      · cases z
        obtain ⟨q', xs', h3, h4, _⟩ := G.slot j _ w
        rw [e1] at h3; cases h3
        have : xs = xs' := by
          unfold ShellO at e2 h4
          rw [e2] at h4
          cases ls <;> cases ls' <;> simp at h4 <;> exact h4
        subst this
        exact ⟨q, xs, v, e1, h4, e3, rfl⟩
    · simp only [h] at p; exact p.elim
  | t ls ks =>
    unfold setX at p
    by_cases h : (storable sl i && noAl sl i) = true
    · simp only [h, if_true] at p
      obtain ⟨h1, h2⟩ := Bool.and_eq_true_iff.mp h
      have hi := storable_lt h1
      have hσ : i < σ.length := by rw [G.len]; exact hi
      obtain ⟨q, xs, rfl, e1, e0, K, w⟩ := x
      refine p _ F H (.refl _) (G.setSlot (s := .sh ls ks) hi ⟨q, xs, List.getElem?_set_self hσ, e1, K, fun a ka => .inl (w a ka).1⟩ (fun a m j b mb _ => ?_) (fun _ _ _ _ z => nomatch z) (fun j k ls' ks' z => by cases z; exact noAl_at h2))
      rcases m with ⟨⟨s, d', h1, h2⟩, _⟩ | ⟨ls', ks', q', xs', h1, h3, h4, h5⟩
      · rw [List.getElem?_set_self hi] at h1; cases h1; cases h2
      · rw [List.getElem?_set_self hi] at h1; cases h1
        rw [List.getElem?_set_self hσ] at h3; cases h3
        have := ShellO.det h4 e1
        subst this
        exact (w a h5).2 j b mb
    · simp only [h] at p; exact p.elim
def sSetX (ow : Bool) (i : Nat) (m : EM) : SM := sStore (setX ow i) m
theorem ss_setX {ow : Bool} {i : Nat} {m : EM} {x : Str} {e : Expr} {pos pos' : Pos} (hN : X.N.Nodup) (hi : X.N[i]? = some x) (hx : Loc X.env.scope x) (he : SE cA X m e) (hs : swapsWith e (some (.Name x pos')) pos.line X.env = pure false := by rfl) (hf : X.fn x = true ∨ X.env.scope.names.lookup x = some .local := by first | exact .inl rfl | exact .inr rfl | assumption) :
    SS cA X (sSetX ow i m) (.Assign [.Name x pos'] e pos) := ss_store putX' hN hi hx he hs hf

/-! ### x[k], x a shell (or a value) -/
def eKid (i k : Nat) : EM := fun sl => match sl[i]? with
  | some (.sh _ ks) => (match ks[k]? with
    | some (.fz d) => .ok (.v d) sl
    | some (.ow _) => .ok (.p i k) sl
    | none => .bad)
  | _ => eOp2 oIx (eVar i) (eC (.int (k : Nat))) sl
theorem kid_imp {i k : Nat} (h : tE g B W (eKid i k) σ H Q) : tOp (rIx g.K) (tVar i) (tC (.int (k : Nat))) σ H Q := by
  obtain ⟨F, sl, G, p⟩ := h
  have back : PostE g B W F σ Q (eOp2 oIx (eVar i) (eC (.int (k : Nat))) sl) → tOp (rIx g.K) (tVar i) (tC (.int (k : Nat))) σ H Q := fun p => by
    obtain ⟨x, hx, q⟩ := var_imp (op2_imp (sim_ix (g := g)) ⟨F, sl, G, p⟩)
    exact ⟨x, hx, c_imp (fun _ => .int _) q⟩
  unfold eKid at p
  cases e : sl[i]? with
  | none => simp only [e] at p; exact back p
  | some s =>
    cases s with
    | sh ls ks =>
      simp only [e] at p
      obtain ⟨q, xs, h1, h2, K, w⟩ := G.slot i _ e
      have idx : ∀ {v : V}, xs[k]? = some v → Q v H → tOp (rIx g.K) (tVar i) (tC (.int (k : Nat))) σ H Q := fun {v} hv hq => by
        have hk : k < xs.length := (List.getElem?_eq_some_iff.mp hv).1
        have ha : atI xs (k : Nat) = some v := by
          have e : ixN xs.length ((k : Nat) : Int) = some k := by
            unfold ixN
            rw [if_pos (Int.natCast_nonneg k), if_pos (by omega)]
            rfl
          unfold atI
          rw [e]
          exact hv
        have h2' := G.sub _ _ h2
        cases ls with
        | true => exact ⟨.ref q, h1, .inl ⟨q, xs, k, v, rfl, rfl, SqL.of h2', ha, hq⟩⟩
        | false => exact ⟨.ref q, h1, .inr (.inl ⟨q, xs, k, v, rfl, rfl, SqT.of h2', ha, hq⟩)⟩
      cases e2 : ks[k]? with
      | none => simp only [e2] at p; exact p.elim
      | some kd =>
        obtain ⟨v, hv, ok⟩ := K.at_ e2
        cases kd with
        | fz d => simp only [e2] at p; exact idx hv (p v F H (.refl _) G ok)
        | ow d => simp only [e2] at p; exact idx hv (p v F H (.refl _) G ⟨ls, q, xs, h1, h2, hv⟩)
    | _ => simp only [e] at p; exact back p
theorem se_kid (i k : Nat) {x : Str} {j : Tok} {px pk pos : Pos} (hv : PE X (.Name x px) (tVar i)) (hs : PlainIx (.Constant (.int (k : Nat)) j pk)) : SE cA X (eKid i k) (.Subscript (.Name x px) (.Constant (.int (k : Nat)) j pk) pos) :=
  ⟨fun B W tk => (pe_ix ix_seq hv pe_int hs).of fun _ _ _ h => kid_imp (g := gx X cA) h⟩
end sx

/-! ### x.m(..), x a kid of a shell -/
def kidLst (ks : List Kid) (k : Nat) : Bool := match ks[k]? with
  | some (.ow d) => isLst d
  | _ => false
def eMutP (m : EM) (f : D → List D → Option (D × D)) (l : LM) : EM := fun sl => match m sl with
  | .ok (.p j k) sl1 => (match sl1[j]? with
    | some (.sh _ ks0) => if kidLst ks0 k then (match l sl1 with
      | .ok as sl2 => (match sl2[j]?, vals as with
        | some (.sh ls ks), some ds => (match ks[k]? with
          | some (.ow d) => if isLst d then (match f d ds with
            | some (d', r) => .ok (.v r) (sl2.set j (.sh ls (ks.set k (.ow d'))))
            | none => .bad) else .bad
          | _ => .bad)
        | _, _ => .bad)
      | .err c ns vs sl' => .err c ns vs sl'
      | .bad => .bad) else .bad
    | _ => .bad)
  | .err c ns vs sl' => .err c ns vs sl'
  | _ => .bad
section mp
variable {cA : Nat → Addr} {X : Cx} {g : G0} {B : Base} {W : WX} {F F' H H' : Hp} {σ : St} {sl sl' : List Slot} {Q : VK}
theorem Good.mutKid (G : Good g B F H σ sl) {j k : Nat} {ls : Bool} {ks : List Kid} {d d' : D} {q a : Addr} {xs : List V} {o : HO} (h1 : sl[j]? = some (.sh ls ks)) (h2 : σ[j]? = some (some (.ref q))) (h3 : ShellO ls F q xs) (h4 : xs[k]? = some (.ref a)) (h5 : ks[k]? = some (.ow d)) (c : CellAt g F (upd H a o) a d') :
    Good g B F (upd H a o) σ (sl.set j (.sh ls (ks.set k (.ow d')))) := by
  have hj : j < sl.length := (List.getElem?_eq_some_iff.mp h1).1
  have hk : k < ks.length := (List.getElem?_eq_some_iff.mp h5).1
  obtain ⟨q', xs', e1, e2, K, w⟩ := G.slot j _ h1
  rw [h2] at e1; cases e1
  have := ShellO.det e2 h3
  subst this
  have ka : KidA xs' ks a := ⟨k, d, h5, h4⟩
  have mi : Mine F σ sl j a := .inr ⟨ls, ks, q, xs', h1, h2, e2, ka⟩
  obtain ⟨nF, d0, c0⟩ := G.mine mi
  have kidS : ∀ {l : Nat} {e : D}, (ks.set k (.ow d'))[l]? = some (.ow e) → ∃ e', ks[l]? = some (.ow e') := fun {l e} h => by
    by_cases z : l = k
    · subst z; exact ⟨d, h5⟩
    · rw [List.getElem?_set_ne (Ne.symm z)] at h; exact ⟨e, h⟩
  have kaS : ∀ {b : Addr}, KidA xs' (ks.set k (.ow d')) b → KidA xs' ks b := fun {b} ⟨l, e, q1, q2⟩ => by
    obtain ⟨e', q3⟩ := kidS q1; exact ⟨l, e', q3, q2⟩
  have mm : ∀ i b, Mine F σ (sl.set j (.sh ls (ks.set k (.ow d')))) i b → Mine F σ sl i b := fun i b m => by
    by_cases ne : i = j
    · subst ne
      rcases m with ⟨⟨s, d2, q1, q2⟩, q3⟩ | ⟨ls', ks', q', xs2, q1, q2, q3, q4⟩
      · rw [List.getElem?_set_self hj] at q1; cases q1; cases q2
      · rw [List.getElem?_set_self hj] at q1; cases q1
        rw [h2] at q2; cases q2
        have := ShellO.det q3 e2
        subst this
        exact .inr ⟨ls, ks, q, xs2, h1, h2, e2, kaS q4⟩
    · rcases m with ⟨⟨s, d2, q1, q2⟩, q3⟩ | ⟨ls', ks', q', xs2, q1, q2⟩
      · rw [List.getElem?_set_ne (Ne.symm ne)] at q1; exact .inl ⟨⟨s, d2, q1, q2⟩, q3⟩
      · rw [List.getElem?_set_ne (Ne.symm ne)] at q1; exact .inr ⟨ls', ks', q', xs2, q1, q2⟩
  have other : ∀ i b, i ≠ j → Mine F σ sl i b → upd H a o b = H b := fun i b ne m => upd_ne (G.apart i j b a ne m mi)
  refine ⟨fun b u e => ?_, G.ext, G.new, fun b u e n => ?_, fun b hb => ?_, fun i s e => ?_, fun i l b c ne m1 m2 => G.apart i l b c ne (mm i b m1) (mm l c m2), by rw [List.length_set]; exact G.len, fun i' j' k' ls' ks' q1 q2 => ?_⟩
  · rw [upd_ne (ne_of_none e nF)]; exact G.sub b u e
  · have : b ≠ a := fun z => by
      subst z
      rcases G.mineOwn mi with y | y
      · rw [y] at e; cases e
      · exact n y
    rw [upd_ne this]; exact G.keep b u e n
  · by_cases z : b = a
    · subst z; exact ⟨o, upd_same⟩
    · rw [upd_ne z]; exact G.live b hb
  · by_cases ne : i = j
    · subst ne
      rw [List.getElem?_set_self hj] at e
      cases e
      refine ⟨q, xs', h2, e2, ⟨by rw [List.length_set]; exact K.len, fun l v kd q1 q2 => ?_, fun l m e e' b q1 q2 q3 q4 => ?_⟩, fun b kb => w b (kaS kb)⟩
      · by_cases z : l = k
        · subst z
          rw [List.getElem?_set_self hk] at q2
          cases q2
          rw [h4] at q1; cases q1
          exact ⟨a, rfl, nF, c⟩
        · rw [List.getElem?_set_ne (Ne.symm z)] at q2
          have y := K.ok l v kd q1 q2
          cases kd with
          | fz d => exact y
          | ow e =>
            obtain ⟨b, eb, n, cb⟩ := y
            subst eb
            have nb : b ≠ a := fun y => by subst y; exact z (K.inj l k e d b q2 h5 q1 h4)
            exact ⟨b, rfl, n, cb.mono (.refl _) (upd_ne nb)⟩
      · obtain ⟨e1', z1⟩ := kidS q1
        obtain ⟨e2', z2⟩ := kidS q2
        exact K.inj l m e1' e2' b z1 z2 q3 q4
    · rw [List.getElem?_set_ne (Ne.symm ne)] at e
      have z := G.slot i s e
      cases s with
      | emp => trivial
      | val d => exact z
      | own d => obtain ⟨b, q1, n, w, c⟩ := z; exact ⟨b, q1, n, w, c.mono (.refl _) (other i b ne (.inl ⟨⟨_, _, e, rfl⟩, q1⟩))⟩
      | io d => obtain ⟨b, q1, n, w, c⟩ := z; exact ⟨b, q1, n, w, c.mono (.refl _) (other i b ne (.inl ⟨⟨_, _, e, rfl⟩, q1⟩))⟩
      | lock _ d => obtain ⟨b, q1, n, w, c⟩ := z; exact ⟨b, q1, n, w, c.mono (.refl _) (other i b ne (.inl ⟨⟨_, _, e, rfl⟩, q1⟩))⟩
      | sh ls2 ks2 =>
        obtain ⟨b, ys, q1, q2, K2, w2⟩ := z
        exact ⟨b, ys, q1, q2, K2.mono (.refl _) fun c kc => ⟨(K2.own kc).1, other i c ne (.inr ⟨ls2, ks2, b, ys, e, q1, q2, kc⟩)⟩, w2⟩
      | al _ _ => trivial
      | exc c ns vs =>
        obtain ⟨b, oe, dd, q1, q2, q3, q4, fs, q5, q6, q7⟩ := z
        have nd : dd ≠ a := fun z => by
          subst z
          obtain ⟨o0, ho, hc⟩ := c0.obj'
          rw [q5] at ho; cases ho; cases hc
        exact ⟨b, oe, dd, q1, q2, q3, q4, fs, by rw [upd_ne nd]; exact q5, q6, q7⟩
  · have q1' : sl[i']? = some (.al j' k') := by
      by_cases z : i' = j
      · subst z; rw [List.getElem?_set_self hj] at q1; cases q1
      · rw [List.getElem?_set_ne (Ne.symm z)] at q1; exact q1
    have q2' : ∃ ks0, sl[j']? = some (.sh ls' ks0) := by
      by_cases z : j' = j
      · subst z; rw [List.getElem?_set_self hj] at q2; cases q2; exact ⟨ks, h1⟩
      · rw [List.getElem?_set_ne (Ne.symm z)] at q2; exact ⟨ks', q2⟩
    obtain ⟨ks0, q2'⟩ := q2'
    exact G.als i' j' k' ls' ks0 q1' q2'
theorem mutP_imp {m : EM} {r : V → List V → Hp → VK → Prop} {f : Za.D → List Za.D → Option (Za.D × Za.D)} {l : LM} (sim : MutSim g r f) (h : tE g B W (eMutP m f l) σ H Q) : tBM g.K "list" r (tE g B W m) (tL g B W l) σ H Q := by
  obtain ⟨F, sl, G, p⟩ := h
  refine ⟨F, sl, G, ?_⟩
  unfold eMutP at p
  cases e : m sl with
  | bad => rw [e] at p; exact p
  | err c ns vs sl' => rw [e] at p; exact p
  | ok a sl1 =>
    rw [e] at p
    cases a with
    | p j k =>
      dsimp only at p
      intro v F1 H1 le1 G1 x
      obtain ⟨ls0, q, xs, e1, e2, e3⟩ := x
      cases es : sl1[j]? with
      | none => rw [es] at p; exact p.elim
      | some s0 =>
        rw [es] at p
        cases s0 with
        | sh ls1 ks0 =>
          dsimp only at p
          by_cases hk0 : kidLst ks0 k = true
          · rw [if_pos hk0] at p
            obtain ⟨q', xs', h1, h2, K, _⟩ := G1.slot j _ es
            rw [e1] at h1; cases h1
            have : xs = xs' := by
              unfold ShellO at e2 h2
              rw [e2] at h2
              cases ls0 <;> cases ls1 <;> simp at h2 <;> exact h2
            subst this
            unfold kidLst at hk0
            cases ek : ks0[k]? with
            | none => rw [ek] at hk0; cases hk0
            | some kd =>
              rw [ek] at hk0
              cases kd with
              | fz d => cases hk0
              | ow d0 =>
                obtain ⟨a, ea, nF, c0⟩ := K.ok k v _ e3 ek
                subst ea
                refine ⟨?_, F1, sl1, G1, ?_⟩
                · cases c0 with
                  | lst hh rr => exact .inl ⟨rfl, _, SqL.of hh⟩
                  | _ => cases hk0
                · cases el : l sl1 with
                  | bad => rw [el] at p; exact p
                  | err c ns vs sl' => rw [el] at p; exact PostX.le p le1
                  | ok as sl2 =>
                    rw [el] at p
                    dsimp only at p
                    intro vs F2 H2 le2 G2 ys
                    cases es2 : sl2[j]? with
                    | none => rw [es2] at p; exact p.elim
                    | some s2 =>
                      cases ev : vals as with
                      | none => rw [es2, ev] at p; cases s2 <;> exact p.elim
                      | some ds =>
                        rw [es2, ev] at p
                        cases s2 with
                        | sh ls ks =>
                          dsimp only at p
                          cases ek2 : ks[k]? with
                          | none => rw [ek2] at p; exact p.elim
                          | some kd2 =>
                            rw [ek2] at p
                            cases kd2 with
                            | fz d => exact p.elim
                            | ow d =>
                              dsimp only at p
                              by_cases hl : isLst d = true
                              · rw [if_pos hl] at p
                                cases ef : f d ds with
                                | none => rw [ef] at p; exact p.elim
                                | some dr =>
                                  obtain ⟨d', res⟩ := dr
                                  rw [ef] at p
                                  dsimp only at p
                                  obtain ⟨q2, xs2, h3, h4, K2, _⟩ := G2.slot j _ es2
                                  rw [e1] at h3; cases h3
                                  have : xs = xs2 := by
                                    have h2' := h2.le le2
                                    unfold ShellO at h2' h4
                                    rw [h2'] at h4
                                    cases ls1 <;> cases ls <;> simp at h4 <;> exact h4
                                  subst this
                                  obtain ⟨a2, ea2, nF2, c2⟩ := K2.ok k _ _ e3 ek2
                                  cases ea2
                                  exact sim F2 H2 a d vs ds d' res Q G2.sub nF2 c2 (vals_ok ys ev) ef fun o w c r => p w F2 _ (le1.trans le2) (G2.mutKid es2 e1 h4 e3 ek2 c) r
                              · rw [if_neg hl] at p; exact p.elim
                        | _ => exact p.elim
          · rw [if_neg hk0] at p; exact p.elim
        | _ => exact p.elim
    | _ => exact p.elim
theorem se_mutP {m : EM} {r : V → List V → Hp → VK → Prop} {f : Za.D → List Za.D → Option (Za.D × Za.D)} {l : LM} {E o : Expr} {es : List Expr} (sim : MutSim (gx X cA) r f) (ho : SE cA X m o)
    (pe : ∀ to t, PE X o to → PA X es t → PE X E (tBM X.K "list" r to t)) (ha : SL cA X l es) : SE cA X (eMutP m f l) E :=
  ⟨fun B W tk => (pe _ _ (ho.run B W tk) (ha.run B W tk)).of fun _ _ _ h => mutP_imp sim h⟩
theorem se_mutP0 {m : EM} {r : V → List V → Hp → VK → Prop} {f : Za.D → List Za.D → Option (Za.D × Za.D)} {E o : Expr} (sim : MutSim (gx X cA) r f) (ho : SE cA X m o)
    (pe : ∀ to, PE X o to → PE X E (tBM0 X.K "list" r to)) : SE cA X (eMutP m f lNil) E :=
  ⟨fun B W tk => (pe _ (ho.run B W tk)).of fun σ H Q h => by
    obtain ⟨F, sl, G, q⟩ := mutP_imp (l := lNil) sim h
    refine ⟨F, sl, G, ?_⟩
    cases e : m sl with
    | bad => rw [e] at q; exact q
    | err c ns vs sl' => rw [e] at q; exact q
    | ok a sl' => rw [e] at q; exact fun v F' H' le G' x => by obtain ⟨ty, q2⟩ := q v F' H' le G' x; exact ⟨ty, lNil_imp q2⟩⟩
end mp

/-! ### a name's last use: what was one's own is frozen -/
def eVarZ (i : Nat) : EM := fun sl => match sl[i]? with
  | some (.own d) => .ok (.v d) (sl.set i (.val d))
  | _ => eVar i sl
section vz
variable {cA : Nat → Addr} {X : Cx} {g : G0} {B : Base} {W : WX} {F F' H H' : Hp} {σ : St} {sl sl' : List Slot} {Q : VK}
theorem varZ_imp {i : Nat} (h : tE g B W (eVarZ i) σ H Q) : tVar i σ H Q := by
  obtain ⟨F, sl, G, p⟩ := h
  unfold eVarZ at p
  have back : PostE g B W F σ Q (eVar i sl) → tVar i σ H Q := fun p => var_imp ⟨F, sl, G, p⟩
  cases e : sl[i]? with
  | none => simp only [e] at p; exact back p
  | some s =>
    cases s with
    | own d =>
      simp only [e] at p
      obtain ⟨a, mi, ha, nF, c⟩ := G.mineAt e rfl
      obtain ⟨o, ho, _⟩ := c.obj'
      have hi : i < sl.length := (List.getElem?_eq_some_iff.mp e).1
      have G1 := G.forget i
      have le : Le F (upd F a o) := fun b u h => by rw [upd_ne (ne_of_none h nF)]; exact h
      have G2 : Good g B (upd F a o) H σ (sl.set i .emp) := G1.freeze ho (G.mineOwn mi) nF fun j b m z => by
        obtain ⟨ne, m'⟩ := mine_forget m
        exact G.apart j i b a ne m' mi z
      have r : Rep g (upd F a o) (.ref a) d := c.rep le (by rw [upd_same, ho])
      have hs : i < σ.length := by rw [G.len]; exact hi
      have G3 := G2.setVal (i := i) (v := .ref a) (by rw [List.length_set]; exact hi) r
      have e1 : σ.set i (some (V.ref a)) = σ := by
        have : some (V.ref a) = σ[i] := by
          have := List.getElem?_eq_some_iff.mp ha
          exact this.2.symm
        rw [this]; exact List.set_getElem_self hs
      rw [e1, List.set_set] at G3
      exact ⟨_, ha, p _ _ H le G3 r⟩
    | _ => simp only [e] at p; exact back p
theorem se_varZ (i : Nat) {x : Str} {pos : Pos} (hN : X.N[i]? = some x := by rfl) (hv : Vis X.env.scope x := by first | exact Or.inl rfl | exact Or.inr (Or.inl rfl) | exact Or.inr (Or.inr rfl)) (hd : (x == ("__debug__" : Str)) = false := by decide)
    (hcd : (x == ("__classdict__" : Str)) = false := by decide) : SE cA X (eVarZ i) (.Name x pos) := ⟨fun B W _ => (pv i hN hv hd hcd).of fun _ _ _ h => varZ_imp h⟩
end vz
end Za
end
section
set_option Elab.async false
set_option linter.all false
set_option maxRecDepth 100000
set_option maxHeartbeats 2000000
/-! Za15: the rules by short names. -/
namespace Za
open PySem PySem.Spec PyProof.Rows L2
theorem bb_ValueError : bootBuiltins "ValueError" = some (.type "ValueError") := by decide +kernel
section
variable {cA : Nat → Addr} {X : Cx} {ma mb : EM} {a b : Expr} {pos : Pos}
theorem q_add (ha : SE cA X ma a) (hb : SE cA X mb b) : SE cA X (eOp2 oAdd ma mb) (.BinOp a .Add b pos) := se_op op_addG sim_add ha hb
theorem q_sub (ha : SE cA X ma a) (hb : SE cA X mb b) : SE cA X (eOp2 oSub ma mb) (.BinOp a .Sub b pos) := se_op op_sub sim_I0 ha hb
theorem q_mul (ha : SE cA X ma a) (hb : SE cA X mb b) : SE cA X (eOp2 oMul ma mb) (.BinOp a .Mult b pos) := se_op op_mul sim_mul ha hb
theorem q_div (ha : SE cA X ma a) (hb : SE cA X mb b) : SE cA X (eOp2 oDiv ma mb) (.BinOp a .FloorDiv b pos) := se_op op_fdivN sim_div ha hb
theorem q_mod (ha : SE cA X ma a) (hb : SE cA X mb b) : SE cA X (eOp2 oMod ma mb) (.BinOp a .Mod b pos) := se_op op_modN sim_mod ha hb
theorem q_pow (ha : SE cA X ma a) (hb : SE cA X mb b) : SE cA X (eOp2 oPow ma mb) (.BinOp a .Pow b pos) := se_op op_pow sim_pow ha hb
/-! comparisons: as values (v_), as tests (t_) -/
theorem v_lt (ha : SE cA X ma a) (hb : SE cA X mb b) : SE cA X (eOp2 oLt ma mb) (.Compare a [.Lt] [b] pos) := se_cmp op_lt sim_C ha hb (nomark _)
theorem v_le (ha : SE cA X ma a) (hb : SE cA X mb b) : SE cA X (eOp2 oLe ma mb) (.Compare a [.LtE] [b] pos) := se_cmp op_le sim_C ha hb (nomark _)
theorem v_gt (ha : SE cA X ma a) (hb : SE cA X mb b) : SE cA X (eOp2 oGt ma mb) (.Compare a [.Gt] [b] pos) := se_cmp op_gt sim_C ha hb (nomark _)
theorem v_ge (ha : SE cA X ma a) (hb : SE cA X mb b) : SE cA X (eOp2 oGe ma mb) (.Compare a [.GtE] [b] pos) := se_cmp op_ge sim_C ha hb (nomark _)
theorem v_eq (hu : X.A.units + 64 < cLine) (ha : SE cA X ma a) (hb : SE cA X mb b) : SE cA X (eOp2 oEq ma mb) (.Compare a [.Eq] [b] pos) := se_cmp (op_eqP hu) sim_eq ha hb (nomark _)
theorem v_ne (hu : X.A.units + 64 < cLine) (ha : SE cA X ma a) (hb : SE cA X mb b) : SE cA X (eOp2 oNe ma mb) (.Compare a [.NotEq] [b] pos) := se_cmp (op_neP hu) sim_ne ha hb (nomark _)
theorem v_isN (ha : SE cA X ma a) (hb : SE cA X mb b) : SE cA X (eOp2 oIsN ma mb) (.Compare a [.Is] [b] pos) := se_cmp op_isN sim_isN ha hb (nomark _)
theorem v_notN (ha : SE cA X ma a) (hb : SE cA X mb b) : SE cA X (eOp2 oNotN ma mb) (.Compare a [.IsNot] [b] pos) := se_cmp op_notN sim_notN ha hb (nomark _)
theorem v_in (hu : X.A.units + 64 < cLine) (ha : SE cA X ma a) (hb : SE cA X mb b) (hm : behindInMarks .In b = false := by rfl) : SE cA X (eOp2 (oIn false) ma mb) (.Compare a [.In] [b] pos) := se_cmp (op_inP hu) sim_in ha hb hm
theorem v_nin (hu : X.A.units + 64 < cLine) (ha : SE cA X ma a) (hb : SE cA X mb b) (hm : behindInMarks .NotIn b = false := by rfl) : SE cA X (eOp2 (oIn true) ma mb) (.Compare a [.NotIn] [b] pos) := se_cmp (op_notInP hu) sim_in ha hb hm
theorem t_lt (ha : SE cA X ma a) (hb : SE cA X mb b) : ST cA X (tB (eOp2 oLt ma mb)) (.Compare a [.Lt] [b] pos) := st_cmp op_lt sim_C ha hb (nomark _)
theorem t_le (ha : SE cA X ma a) (hb : SE cA X mb b) : ST cA X (tB (eOp2 oLe ma mb)) (.Compare a [.LtE] [b] pos) := st_cmp op_le sim_C ha hb (nomark _)
theorem t_gt (ha : SE cA X ma a) (hb : SE cA X mb b) : ST cA X (tB (eOp2 oGt ma mb)) (.Compare a [.Gt] [b] pos) := st_cmp op_gt sim_C ha hb (nomark _)
theorem t_ge (ha : SE cA X ma a) (hb : SE cA X mb b) : ST cA X (tB (eOp2 oGe ma mb)) (.Compare a [.GtE] [b] pos) := st_cmp op_ge sim_C ha hb (nomark _)
theorem t_eq (hu : X.A.units + 64 < cLine) (ha : SE cA X ma a) (hb : SE cA X mb b) : ST cA X (tB (eOp2 oEq ma mb)) (.Compare a [.Eq] [b] pos) := st_cmp (op_eqP hu) sim_eq ha hb (nomark _)
theorem t_ne (hu : X.A.units + 64 < cLine) (ha : SE cA X ma a) (hb : SE cA X mb b) : ST cA X (tB (eOp2 oNe ma mb)) (.Compare a [.NotEq] [b] pos) := st_cmp (op_neP hu) sim_ne ha hb (nomark _)
theorem t_isN (ha : SE cA X ma a) (hb : SE cA X mb b) : ST cA X (tB (eOp2 oIsN ma mb)) (.Compare a [.Is] [b] pos) := st_cmp op_isN sim_isN ha hb (nomark _)
theorem t_notN (ha : SE cA X ma a) (hb : SE cA X mb b) : ST cA X (tB (eOp2 oNotN ma mb)) (.Compare a [.IsNot] [b] pos) := st_cmp op_notN sim_notN ha hb (nomark _)
theorem t_in (hu : X.A.units + 64 < cLine) (ha : SE cA X ma a) (hb : SE cA X mb b) (hm : behindInMarks .In b = false := by rfl) : ST cA X (tB (eOp2 (oIn false) ma mb)) (.Compare a [.In] [b] pos) := st_cmp (op_inP hu) sim_in ha hb hm
theorem t_nin (hu : X.A.units + 64 < cLine) (ha : SE cA X ma a) (hb : SE cA X mb b) (hm : behindInMarks .NotIn b = false := by rfl) : ST cA X (tB (eOp2 (oIn true) ma mb)) (.Compare a [.NotIn] [b] pos) := st_cmp (op_notInP hu) sim_in ha hb hm
/-! -x -/
def dNeg : D → Option RK
  | .int i => some (.val (.int (-i)))
  | _ => none
def eNeg (m : EM) : EM := eB (eV m) fun x => fun sl => match cont sl x with
  | some d => retR (dNeg d) sl
  | none => .bad
theorem neg_imp {g : G0} {B : Base} {W : WX} {σ : St} {H : Hp} {Q : VK} {m : EM} (h : tE g B W (eNeg m) σ H Q) : tUn (rU fun i => .int (-i)) (tE g B W m) σ H Q := by
  obtain ⟨F, sl, G, p⟩ := h
  refine PostE.bind G p fun v a H1 F1 sl1 l1 sa G1 x1 p1 => ?_
  cases e : cont sl1 a with
  | none => rw [e] at p1; exact p1.elim
  | some d =>
    rw [e] at p1
    cases d with
    | int i => exact ⟨i, (x1.cont G1 e).int, p1 _ F1 H1 (.refl _) G1 (.int _)⟩
    | _ => exact p1.elim
theorem q_neg (ha : SE cA X ma a) : SE cA X (eNeg ma) (.UnaryOp .USub a pos) := ⟨fun B W tk => (pe_un un_neg (ha.run B W tk)).of fun _ _ _ h => neg_imp h⟩
/-! built-in functions of one or two -/
variable {l : LM} {x : Str} {p : Pos} {es : List Expr}
theorem f_len (hm : X.mg "len" = none) (ha : SE cA X ma a) (hg : L2.Gl X "len" := by rfl) (hs : starEach [a] X.env = (false, eval a X.env) :: starEach [] X.env := by rfl) : SE cA X (eFn fLen (lCons ma lNil)) (.Call (.Name "len" p) [a] [] pos) :=
  se_callB call_len sim_len hg hm PySem.boot_len (sl_cons ha sl_nil hs) (by decide) (by decide) hs
theorem f_list (hm : X.mg "list" = none) (ha : SE cA X ma a) (hg : L2.Gl X "list" := by rfl) (hs : starEach [a] X.env = (false, eval a X.env) :: starEach [] X.env := by rfl) : SE cA X (eFn fList (lCons ma lNil)) (.Call (.Name "list" p) [a] [] pos) :=
  se_callTy (call_list_of) sim_list hg hm PyProof.Rows.boot_list (sl_cons ha sl_nil hs) (by decide) (by decide) hs
theorem f_abs (hm : X.mg "abs" = none) (ha : SE cA X ma a) (hg : L2.Gl X "abs" := by rfl) (hs : starEach [a] X.env = (false, eval a X.env) :: starEach [] X.env := by rfl) : SE cA X (eFn fAbs (lCons ma lNil)) (.Call (.Name "abs" p) [a] [] pos) :=
  se_callB call_abs sim_abs hg hm PyProof.Rows.boot_abs (sl_cons ha sl_nil hs) (by decide) (by decide) hs
theorem f_int (hm : X.mg "int" = none) (ha : SE cA X ma a) (hg : L2.Gl X "int" := by rfl) (hs : starEach [a] X.env = (false, eval a X.env) :: starEach [] X.env := by rfl) : SE cA X (eFn fInt (lCons ma lNil)) (.Call (.Name "int" p) [a] [] pos) :=
  se_callTy call_int1 sim_int hg hm PyProof.Rows.boot_int (sl_cons ha sl_nil hs) (by decide) (by decide) hs
theorem f_min (hc : X.calm = true) (hm : X.mg "min" = none) (ha : SE cA X ma a) (hg : L2.Gl X "min" := by rfl) (hs : starEach [a] X.env = (false, eval a X.env) :: starEach [] X.env := by rfl) : SE cA X (eFn fMin (lCons ma lNil)) (.Call (.Name "min" p) [a] [] pos) :=
  se_callB (cr_min hc) sim_min hg hm PyProof.Rows.boot_min (sl_cons ha sl_nil hs) (by decide) (by decide) hs
theorem f_all (hc : X.calm = true) (hm : X.mg "all" = none) (ha : SE cA X ma a) (hg : L2.Gl X "all" := by rfl) (hs : starEach [a] X.env = (false, eval a X.env) :: starEach [] X.env := by rfl) : SE cA X (eFn fAll (lCons ma lNil)) (.Call (.Name "all" p) [a] [] pos) :=
  se_callB (cr_all hc) sim_all hg hm PyProof.Rows.boot_all (sl_cons ha sl_nil hs) (by decide) (by decide) hs
theorem f_any (hc : X.calm = true) (hm : X.mg "any" = none) (ha : SE cA X ma a) (hg : L2.Gl X "any" := by rfl) (hs : starEach [a] X.env = (false, eval a X.env) :: starEach [] X.env := by rfl) : SE cA X (eFn fAny (lCons ma lNil)) (.Call (.Name "any" p) [a] [] pos) :=
  se_callB (cr_any hc) sim_any hg hm PyProof.Rows.boot_any (sl_cons ha sl_nil hs) (by decide) (by decide) hs
theorem f_sortI (hm : X.mg "sorted" = none) (ha : SE cA X ma a) (hg : L2.Gl X "sorted" := by rfl) (hs : starEach [a] X.env = (false, eval a X.env) :: starEach [] X.env := by rfl) : SE cA X (eFn fSortI (lCons ma lNil)) (.Call (.Name "sorted" p) [a] [] pos) :=
  se_callB cr_sortedI sim_sortI hg hm PyProof.Rows.boot_sorted (sl_cons ha sl_nil hs) (by decide) (by decide) hs
theorem f_sortP (hm : X.mg "sorted" = none) (ha : SE cA X ma a) (hg : L2.Gl X "sorted" := by rfl) (hs : starEach [a] X.env = (false, eval a X.env) :: starEach [] X.env := by rfl) : SE cA X (eFn fSortP (lCons ma lNil)) (.Call (.Name "sorted" p) [a] [] pos) :=
  se_callB cr_sortedPT sim_sortP hg hm PyProof.Rows.boot_sorted (sl_cons ha sl_nil hs) (by decide) (by decide) hs
/-! isinstance with a built-in type -/
theorem f_isi {T : String} {y : Str} {p2 : Pos} (hm : X.mg "isinstance" = none) (hy : X.mg y = none) (hb : bootBuiltins y = some (.type T)) (ha : SE cA X ma a) (hg : L2.Gl X "isinstance" := by rfl) (hgy : L2.Gl X y := by rfl) (hn : y ≠ "__name__" := by decide) (hd : (y == ("__debug__" : Str)) = false := by decide)
    (h1 : starEach [.Name y p2] X.env = (false, eval (.Name y p2) X.env) :: starEach [] X.env := by rfl) (he : starEach [a, .Name y p2] X.env = (false, eval a X.env) :: starEach [.Name y p2] X.env := by rfl) :
    SE cA X (eIsi ma T) (.Call (.Name "isinstance" p) [a, .Name y p2] [] pos) :=
  se_isi (x := y) (pe_bltn hgy hy hb rfl hn hd) hg hm PyProof.Rows.boot_isinstance ha h1 he
end
end Za
end
section
set_option Elab.async false
set_option linter.all false
set_option maxRecDepth 100000
set_option maxHeartbeats 4000000
namespace Zk06
open PySem PySem.Spec PyProof.Rows L2 Za
def top (i : Nat) : Stmt := PySem.Challenge.pw_quorumdrift_k06_straight_lists.main.body.getD i (.Pass ⟨0, 0, 0, 0⟩)
abbrev sfirst_wrong_place : Stmt := top 8
abbrev scheck_like_keys : Stmt := top 9
abbrev spairs_in : Stmt := top 10
abbrev scheck_list : Stmt := top 12
abbrev sswap_at : Stmt := top 13
abbrev sdiffering_pairs : Stmt := top 14
abbrev sstraight_swaps : Stmt := top 15
abbrev scheck_two_lists : Stmt := top 16
abbrev sfirst_turned : Stmt := top 17
abbrev s_law_box : Stmt := top 19
abbrev s_law_take : Stmt := top 20
abbrev s_law_keys : Stmt := top 21
abbrev s_law_order : Stmt := top 22
abbrev s_law_int : Stmt := top 23
abbrev s_law_ints : Stmt := top 25
abbrev s_law_tuple : Stmt := top 26
abbrev s_law_tuples : Stmt := top 27
abbrev s_law_widened : Stmt := top 28
abbrev s_law_wrong : Stmt := top 29
abbrev s_law_unlike : Stmt := top 30
abbrev s_law_bent : Stmt := top 31
abbrev s_law_exchanged : Stmt := top 32
abbrev s_law_second : Stmt := top 33
abbrev s_law_differing : Stmt := top 34
abbrev s_law_straight : Stmt := top 35
abbrev s_law_ask : Stmt := top 36
abbrev s_law_due : Stmt := top 37
abbrev s_law_asked : Stmt := top 38
abbrev slaw : Stmt := top 39
abbrev sInit1 : Stmt := inClass (top 2) 0
abbrev sInit2 : Stmt := inClass (top 3) 0
abbrev sInit3 : Stmt := inClass (top 4) 0
structure DefAt (K : PySem.W.Frag) (mg : Str → Option Value) (x : Str) (st : Stmt) (ps : List Str) (f : Addr) (fd : FuncData) : Prop where
  fn : Fun K x x st f fd
  mg : mg x = some (.ref f)
  bd : Binds K fd ps []
structure ExcAt (K : PySem.W.Frag) (mg : Str → Option Value) (x q f : Str) (st : Stmt) (C fI : Addr) (fdI : FuncData) : Prop where
  T : OexC K C
  iC : PySem.W.findIn K (.ref C) "__init__" = some (some (.ref fI))
  tI : PySem.W.typeIn K (.ref fI) = some (.type "function")
  fn : Fun K "__init__" q st fI fdI
  bd : Binds K fdI ["self", f] []
  mg : mg x = some (.ref C)
  noF : PySem.W.findIn K (.ref C) f = some none
  xf : XfC K C
  xis : XisC K C
structure Env (K : PySem.W.Frag) (mg : Str → Option Value) (cA : Nat → Addr) (ad : Nat → Addr) (fdv : Nat → FuncData) (aI : Nat → Addr) (fdI : Nat → FuncData) : Prop where
  dfirst_wrong_place : DefAt K mg "first_wrong_place" sfirst_wrong_place ["order"] (ad 0) (fdv 0)
  dcheck_like_keys : DefAt K mg "check_like_keys" scheck_like_keys ["first", "second"] (ad 1) (fdv 1)
  dpairs_in : DefAt K mg "pairs_in" spairs_in ["order"] (ad 2) (fdv 2)
  dcheck_list : DefAt K mg "check_list" scheck_list ["order"] (ad 3) (fdv 3)
  dswap_at : DefAt K mg "swap_at" sswap_at ["order", "index"] (ad 4) (fdv 4)
  ddiffering_pairs : DefAt K mg "differing_pairs" sdiffering_pairs ["first", "second"] (ad 5) (fdv 5)
  dstraight_swaps : DefAt K mg "straight_swaps" sstraight_swaps ["first", "second"] (ad 6) (fdv 6)
  dcheck_two_lists : DefAt K mg "check_two_lists" scheck_two_lists ["first", "second"] (ad 7) (fdv 7)
  dfirst_turned : DefAt K mg "first_turned" sfirst_turned ["order", "goal"] (ad 8) (fdv 8)
  d_law_box : DefAt K mg "_law_box" s_law_box ["script"] (ad 9) (fdv 9)
  d_law_take : DefAt K mg "_law_take" s_law_take ["box", "size"] (ad 10) (fdv 10)
  d_law_keys : DefAt K mg "_law_keys" s_law_keys ["box", "count"] (ad 11) (fdv 11)
  d_law_order : DefAt K mg "_law_order" s_law_order ["box", "keys"] (ad 12) (fdv 12)
  d_law_int : DefAt K mg "_law_int" s_law_int ["value"] (ad 13) (fdv 13)
  d_law_ints : DefAt K mg "_law_ints" s_law_ints ["told", "due"] (ad 14) (fdv 14)
  d_law_tuple : DefAt K mg "_law_tuple" s_law_tuple ["told", "due"] (ad 15) (fdv 15)
  d_law_tuples : DefAt K mg "_law_tuples" s_law_tuples ["told", "due"] (ad 16) (fdv 16)
  d_law_widened : DefAt K mg "_law_widened" s_law_widened ["box", "keys"] (ad 17) (fdv 17)
  d_law_wrong : DefAt K mg "_law_wrong" s_law_wrong ["order"] (ad 18) (fdv 18)
  d_law_unlike : DefAt K mg "_law_unlike" s_law_unlike ["first", "second"] (ad 19) (fdv 19)
  d_law_bent : DefAt K mg "_law_bent" s_law_bent ["box", "order"] (ad 20) (fdv 20)
  d_law_exchanged : DefAt K mg "_law_exchanged" s_law_exchanged ["order", "place"] (ad 21) (fdv 21)
  d_law_second : DefAt K mg "_law_second" s_law_second ["box", "first"] (ad 22) (fdv 22)
  d_law_differing : DefAt K mg "_law_differing" s_law_differing ["first", "second"] (ad 23) (fdv 23)
  d_law_straight : DefAt K mg "_law_straight" s_law_straight ["first", "second", "told"] (ad 24) (fdv 24)
  d_law_ask : DefAt K mg "_law_ask" s_law_ask ["way", "first", "second", "index"] (ad 25) (fdv 25)
  d_law_due : DefAt K mg "_law_due" s_law_due ["way", "first", "second", "index"] (ad 26) (fdv 26)
  d_law_asked : DefAt K mg "_law_asked" s_law_asked ["way", "first", "second", "index"] (ad 27) (fdv 27)
  dlaw : DefAt K mg "law" slaw ["script"] (ad 28) (fdv 28)
  c1 : ExcAt K mg "InvalidList" "InvalidList.__init__" "place" sInit1 (cA 1) (aI 1) (fdI 1)
  c2 : ExcAt K mg "UnlikeKeys" "UnlikeKeys.__init__" "key" sInit2 (cA 2) (aI 2) (fdI 2)
  c3 : ExcAt K mg "InvalidSwap" "InvalidSwap.__init__" "step" sInit3 (cA 3) (aI 3) (fdI 3)
  m0 : mg "DriftError" = some (.ref (cA 0))
  z_ValueError : mg "ValueError" = none
  z_abs : mg "abs" = none
  z_all : mg "all" = none
  z_bool : mg "bool" = none
  z_enumerate : mg "enumerate" = none
  z_int : mg "int" = none
  z_isinstance : mg "isinstance" = none
  z_len : mg "len" = none
  z_list : mg "list" = none
  z_min : mg "min" = none
  z_range : mg "range" = none
  z_set : mg "set" = none
  z_sorted : mg "sorted" = none
  z_tuple : mg "tuple" = none
  g_MOST_KEYS : ∃ tk : Tok, mg "MOST_KEYS" = some (.int 12 tk)
  g_GREATEST_KEY : ∃ tk : Tok, mg "GREATEST_KEY" = some (.int 9999 tk)
  xk : XisK K
  e1_1 : PySem.W.exmOne K (.ref (cA 1)) (.ref (cA 1)) = some true
  e1_2 : PySem.W.exmOne K (.ref (cA 1)) (.ref (cA 2)) = some false
  e1_3 : PySem.W.exmOne K (.ref (cA 1)) (.ref (cA 3)) = some false
  k1_0 : PySem.W.kitOne K (.ref (cA 1)) (.ref (cA 0)) = some true
  k1_1 : PySem.W.kitOne K (.ref (cA 1)) (.ref (cA 1)) = some true
  k1_2 : PySem.W.kitOne K (.ref (cA 1)) (.ref (cA 2)) = some false
  k1_3 : PySem.W.kitOne K (.ref (cA 1)) (.ref (cA 3)) = some false
  k1_ValueError : PySem.W.kitOne K (.ref (cA 1)) (.type "ValueError") = some true
  e2_1 : PySem.W.exmOne K (.ref (cA 2)) (.ref (cA 1)) = some false
  e2_2 : PySem.W.exmOne K (.ref (cA 2)) (.ref (cA 2)) = some true
  e2_3 : PySem.W.exmOne K (.ref (cA 2)) (.ref (cA 3)) = some false
  k2_0 : PySem.W.kitOne K (.ref (cA 2)) (.ref (cA 0)) = some true
  k2_1 : PySem.W.kitOne K (.ref (cA 2)) (.ref (cA 1)) = some false
  k2_2 : PySem.W.kitOne K (.ref (cA 2)) (.ref (cA 2)) = some true
  k2_3 : PySem.W.kitOne K (.ref (cA 2)) (.ref (cA 3)) = some false
  k2_ValueError : PySem.W.kitOne K (.ref (cA 2)) (.type "ValueError") = some true
  e3_1 : PySem.W.exmOne K (.ref (cA 3)) (.ref (cA 1)) = some false
  e3_2 : PySem.W.exmOne K (.ref (cA 3)) (.ref (cA 2)) = some false
  e3_3 : PySem.W.exmOne K (.ref (cA 3)) (.ref (cA 3)) = some true
  k3_0 : PySem.W.kitOne K (.ref (cA 3)) (.ref (cA 0)) = some true
  k3_1 : PySem.W.kitOne K (.ref (cA 3)) (.ref (cA 1)) = some false
  k3_2 : PySem.W.kitOne K (.ref (cA 3)) (.ref (cA 2)) = some false
  k3_3 : PySem.W.kitOne K (.ref (cA 3)) (.ref (cA 3)) = some true
  k3_ValueError : PySem.W.kitOne K (.ref (cA 3)) (.type "ValueError") = some true
/-! the meanings -/
def mfirst_wrong_place : SM := sSeq (sFor (iEnumM (eVar 0)) (bTup [bName 1, bName 2]) (sIf (tOrM (tB (eOp2 oGe (eVar 1) (eC (.int 12)))) (tOrM (tB (eOp2 oLt (eVar 2) (eC (.int 0)))) (tOrM (tB (eOp2 oGt (eVar 2) (eC (.int 9999)))) (tB (eOp2 (oIn false) (eVar 2) (eSl (eVar 0) none (some (eVar 1)))))))) (sRet (eVar 1)) (sSkip)))
    (sRet (eC .non))
def Ffirst_wrong_place : FM := fnM 3 mfirst_wrong_place
def mcheck_like_keys : SM := sSeq (sSet 2 (eXor 0 1))
    (sIf (tTr (eVar 2)) (sRaise 2 (Str.ofString "key") (eV (eOp2 oIx (eVar 2) (eC (.int 0))))) (sSkip))
def Fcheck_like_keys : FM := fnM 3 mcheck_like_keys
def mpairs_in : SM := sRet (eLc2 (iEnumM (eVar 0)) [1, 2, 3] [3] (bTup [bName 1, bName 2]) (tYesM) (iLst (eSl (eVar 0) (some (eOp2 oAdd (eVar 1) (eC (.int 1)))) none)) (bName 3) (tYesM) (eTup (lCons (eVar 2) (lCons (eVar 3) (lNil)))))
def Fpairs_in : FM := fnM 4 mpairs_in
def mcheck_list : SM := sSeq (sSet 1 (eCall Ffirst_wrong_place [false] (lCons (eVar 0) (lNil))))
    (sIf (tB (eOp2 oNotN (eVar 1) (eC .non))) (sRaise 1 (Str.ofString "place") (eV (eVar 1))) (sSkip))
def Fcheck_list : FM := fnM 2 mcheck_list
def mswap_at : SM := sSeq (sExpr (eCall Fcheck_list [false] (lCons (eVar 0) (lNil))))
    (sSeq (sIf (tOrM (tB (eOp2 oLt (eVar 1) (eC (.int 0)))) (tB (eOp2 oGt (eVar 1) (eOp2 oSub (eFn fLen (lCons (eVar 0) lNil)) (eC (.int 2)))))) (sRaise 3 (Str.ofString "step") (eV (eC (.int 0)))) (sSkip))
    (sRet (eOp2 oAdd (eOp2 oAdd (eSl (eVar 0) none (some (eVar 1))) (eLst (lCons (eOp2 oIx (eVar 0) (eOp2 oAdd (eVar 1) (eC (.int 1)))) (lCons (eOp2 oIx (eVar 0) (eVar 1)) (lNil))))) (eSl (eVar 0) (some (eOp2 oAdd (eVar 1) (eC (.int 2)))) none))))
def Fswap_at : FM := fnM 2 mswap_at
def mcheck_two_lists : SM := sSeq (sExpr (eCall Fcheck_list [false] (lCons (eVar 0) (lNil))))
    (sSeq (sExpr (eCall Fcheck_list [false] (lCons (eVar 1) (lNil))))
    (sExpr (eCall Fcheck_like_keys [false, false] (lCons (eVar 0) (lCons (eVar 1) (lNil))))))
def Fcheck_two_lists : FM := fnM 2 mcheck_two_lists
def mdiffering_pairs : SM := sSeq (sExpr (eCall Fcheck_two_lists [false, false] (lCons (eVar 0) (lCons (eVar 1) (lNil)))))
    (sRet (eFn fSortP (lCons (eLc (iLst (eCall Fpairs_in [false] (lCons (eVar 0) (lNil)))) [2, 3] (bTup [bName 2, bName 3]) (tB (eOp2 oLt (eMeth isLK mIndex (eVar 1) (lCons (eVar 3) (lNil))) (eMeth isLK mIndex (eVar 1) (lCons (eVar 2) (lNil))))) (eTup (lCons (eVar 2) (lCons (eVar 3) (lNil))))) lNil)))
def Fdiffering_pairs : FM := fnM 4 mdiffering_pairs
def mfirst_turned : SM := sSeq (sFor (iRng (lCons (eOp2 oSub (eFn fLen (lCons (eVar 0) lNil)) (eC (.int 1))) lNil)) (bName 2) (sIf (tB (eOp2 oLt (eMeth isLK mIndex (eVar 1) (lCons (eOp2 oIx (eVar 0) (eOp2 oAdd (eVar 2) (eC (.int 1)))) (lNil))) (eMeth isLK mIndex (eVar 1) (lCons (eOp2 oIx (eVar 0) (eVar 2)) (lNil))))) (sRet (eVar 2)) (sSkip)))
    (sRet (eC .non))
def Ffirst_turned : FM := fnM 3 mfirst_turned
def mstraight_swaps : SM := sSeq (sExpr (eCall Fcheck_two_lists [false, false] (lCons (eVar 0) (lCons (eVar 1) (lNil)))))
    (sSeq (sSet 2 (eFn fList (lCons (eVar 0) lNil)))
    (sSeq (sOwn 3 (eLst (lNil)))
    (sSeq (sSet 4 (eCall Ffirst_turned [false, false] (lCons (eVar 2) (lCons (eVar 1) (lNil)))))
    (sSeq (sWhile 1000 (tB (eOp2 oNotN (eVar 4) (eC .non))) (sSeq (sExpr (eMut 3 uAppend (lCons (eVar 4) (lNil))))
    (sSeq (sSet 2 (eCall Fswap_at [false, false] (lCons (eVar 2) (lCons (eVar 4) (lNil)))))
    (sSet 4 (eCall Ffirst_turned [false, false] (lCons (eVar 2) (lCons (eVar 1) (lNil))))))))
    (sRet (eVar 3))))))
def Fstraight_swaps : FM := fnM 5 mstraight_swaps
def m_law_box : SM := sRet (eLst (lCons (eFn fList (lCons (eSl (eVar 0) none (some (eC (.int 63)))) lNil)) (lCons (eC (.int 0)) (lCons (eC (.int 0)) (lNil)))))
def F_law_box : FM := fnM 1 m_law_box
def m_law_take : SM := sSeq (sSet 2 (eOp2 oIx (eVar 0) (eC (.int 1))))
    (sSeq (sIf (tB (eOp2 oGt (eVar 2) (eC (.int 0)))) (sSeq (sItem 0 (eC (.int 1)) (eOp2 oDiv (eVar 2) (eVar 1)))
    (sRet (eOp2 oMod (eFn fInt (lCons (eVar 2) lNil)) (eVar 1)))) (sSkip))
    (sSeq (sItem 0 (eC (.int 2)) (eOp2 oAdd (eOp2 oIx (eVar 0) (eC (.int 2))) (eC (.int 1))))
    (sSeq (sSet 3 (eOp2 oIx (eVar 0) (eC (.int 2))))
    (sSeq (sSet 4 (eOp2 oIx (eVar 0) (eC (.int 0))))
    (sSeq (sSet 5 (eC (.int 0)))
    (sSeq (sIf (tB (eOp2 oLe (eVar 3) (eFn fLen (lCons (eVar 4) lNil)))) (sSeq (sSet 5 (eFn fAbs (lCons (eOp2 oIx (eVar 4) (eOp2 oSub (eVar 3) (eC (.int 1)))) lNil)))
    (sIf (tB (eOp2 oGe (eVar 5) (eOp2 oPow (eC (.int 10)) (eC (.int 18))))) (sSeq (sItem 0 (eC (.int 1)) (eOp2 oDiv (eVar 5) (eVar 1)))
    (sRet (eOp2 oMod (eFn fInt (lCons (eVar 5) lNil)) (eVar 1)))) (sSkip))) (sIf (tTr (eVar 4)) (sSet 5 (eFn fAbs (lCons (eOp2 oIx (eVar 4) (eOp2 oMod (eVar 3) (eFn fLen (lCons (eVar 4) lNil)))) lNil))) (sSkip)))
    (sSeq (sSet 6 (eOp2 oMod (eFn fInt (lCons (eOp2 oAdd (eOp2 oMul (eOp2 oAdd (eVar 5) (eOp2 oMul (eVar 3) (eC (.int 7919)))) (eC (.int 48271))) (eC (.int 11))) lNil)) (eC (.int 2147483647))))
    (sSeq (sSet 6 (eOp2 oMod (eFn fInt (lCons (eOp2 oAdd (eOp2 oMul (eVar 6) (eOp2 oAdd (eOp2 oDiv (eVar 6) (eC (.int 4096))) (eC (.int 69621)))) (eVar 3)) lNil)) (eC (.int 2147483629))))
    (sRet (eOp2 oMod (eFn fInt (lCons (eOp2 oDiv (eVar 6) (eC (.int 7))) lNil)) (eVar 1)))))))))))
def F_law_take : FM := fnM 7 m_law_take
def m_law_order : SM := sSeq (sOwn 2 (eFn fList (lCons (eVar 1) lNil)))
    (sSeq (sOwn 3 (eLst (lNil)))
    (sSeq (sFor (iRng (lCons (eFn fLen (lCons (eVar 1) lNil)) lNil)) (bName 4) (sExpr (eMut 3 uAppend (lCons (eMut 2 uPopAt (lCons (eCall F_law_take [true, false] (lCons (eVar 0) (lCons (eFn fLen (lCons (eVar 2) lNil)) (lNil)))) (lNil))) (lNil)))))
    (sRet (eVar 3))))
def F_law_order : FM := fnM 5 m_law_order
def m_law_keys : SM := sSeq (sOwn 2 (eLst (lNil)))
    (sSeq (sSet 3 (eCall F_law_take [true, false] (lCons (eVar 0) (lCons (eC (.int 600)) (lNil)))))
    (sSeq (sFor (iRng (lCons (eVar 1) lNil)) (bName 4) (sSeq (sExpr (eMut 2 uAppend (lCons (eVar 3) (lNil))))
    (sSet 3 (eOp2 oAdd (eOp2 oAdd (eVar 3) (eC (.int 1))) (eOp2 oMul (eCall F_law_take [true, false] (lCons (eVar 0) (lCons (eC (.int 3)) (lNil)))) (eCall F_law_take [true, false] (lCons (eVar 0) (lCons (eC (.int 240)) (lNil)))))))))
    (sRet (eCall F_law_order [true, false] (lCons (eVar 0) (lCons (eVarZ 2) (lNil)))))))
def F_law_keys : FM := fnM 5 m_law_keys
def m_law_int : SM := sRet (eAndV (eIsi (eVar 0) "int") (eNotV (eIsi (eVar 0) "bool")))
def F_law_int : FM := fnM 1 m_law_int
def m_law_ints : SM := sSeq (sIf (tOrM (tNotM (tTr (eIsi (eVar 0) "list"))) (tNotM (tTr (eFn fAll (lCons (eLc (iLst (eVar 0)) [2] (bName 2) (tYesM) (eCall F_law_int [false] (lCons (eVar 2) (lNil)))) lNil))))) (sRet (eC (.bl false))) (sSkip))
    (sRet (eOp2 oEq (eVar 0) (eVar 1)))
def F_law_ints : FM := fnM 3 m_law_ints
def m_law_tuple : SM := sSeq (sIf (tOrM (tNotM (tTr (eIsi (eVar 0) "tuple"))) (tNotM (tTr (eFn fAll (lCons (eLc (iTupM (eVar 0)) [2] (bName 2) (tYesM) (eCall F_law_int [false] (lCons (eVar 2) (lNil)))) lNil))))) (sRet (eC (.bl false))) (sSkip))
    (sRet (eOp2 oEq (eVar 0) (eVar 1)))
def F_law_tuple : FM := fnM 3 m_law_tuple
def m_law_tuples : SM := sSeq (sIf (tOrM (tNotM (tTr (eIsi (eVar 0) "list"))) (tB (eOp2 oNe (eFn fLen (lCons (eVar 0) lNil)) (eFn fLen (lCons (eVar 1) lNil))))) (sRet (eC (.bl false))) (sSkip))
    (sRet (eFn fAll (lCons (eLc (iRng (lCons (eFn fLen (lCons (eVar 1) lNil)) lNil)) [2] (bName 2) (tYesM) (eCall F_law_tuple [false, false] (lCons (eOp2 oIx (eVar 0) (eVar 2)) (lCons (eOp2 oIx (eVar 1) (eVar 2)) (lNil))))) lNil)))
def F_law_tuples : FM := fnM 3 m_law_tuples
def m_law_widened : SM := sSeq (sOwn 2 (eFn fList (lCons (eVar 1) lNil)))
    (sSeq (sSet 3 (eCall F_law_take [true, false] (lCons (eVar 0) (lCons (eC (.int 8)) (lNil)))))
    (sSeq (sSet 4 (eCall F_law_take [true, false] (lCons (eVar 0) (lCons (eOp2 oAdd (eFn fLen (lCons (eVar 2) lNil)) (eC (.int 1))) (lNil)))))
    (sSeq (sIf (tAndM (tB (eOp2 oLt (eVar 4) (eFn fLen (lCons (eVar 2) lNil)))) (tB (eOp2 oEq (eVar 3) (eC (.int 0))))) (sItem 2 (eVar 4) (eC (.int 9999))) (sSkip))
    (sSeq (sIf (tAndM (tB (eOp2 oLt (eVar 4) (eFn fLen (lCons (eVar 2) lNil)))) (tAndM (tB (eOp2 oEq (eVar 3) (eC (.int 1)))) (tB (eOp2 (oIn true) (eC (.int 0)) (eVar 2))))) (sItem 2 (eVar 4) (eC (.int 0))) (sSkip))
    (sRet (eVar 2))))))
def F_law_widened : FM := fnM 5 m_law_widened
def m_law_wrong : SM := sSeq (sFor (iRng (lCons (eFn fLen (lCons (eVar 0) lNil)) lNil)) (bName 1) (sIf (tOrM (tB (eOp2 oGe (eVar 1) (eC (.int 12)))) (tOrM (tB (eOp2 oLt (eOp2 oIx (eVar 0) (eVar 1)) (eC (.int 0)))) (tOrM (tB (eOp2 oGt (eOp2 oIx (eVar 0) (eVar 1)) (eC (.int 9999)))) (tB (eOp2 (oIn false) (eOp2 oIx (eVar 0) (eVar 1)) (eSl (eVar 0) none (some (eVar 1)))))))) (sRet (eVar 1)) (sSkip)))
    (sRet (eC .non))
def F_law_wrong : FM := fnM 2 m_law_wrong
def m_law_unlike : SM := sSeq (sStore (setV 2) (eLc (iLst (eVar 0)) [4] (bName 4) (tB (eOp2 (oIn true) (eVar 4) (eVar 1))) (eVar 4)))
    (sSeq (sStore (setV 3) (eLc (iLst (eVar 1)) [4] (bName 4) (tB (eOp2 (oIn true) (eVar 4) (eVar 0))) (eVar 4)))
    (sSeq (sIf (tTr (eOp2 oAdd (eVar 2) (eVar 3))) (sRet (eFn fMin (lCons (eOp2 oAdd (eVar 2) (eVar 3)) lNil))) (sSkip))
    (sRet (eC .non))))
def F_law_unlike : FM := fnM 5 m_law_unlike
def m_law_bent : SM := sSeq (sOwn 2 (eFn fList (lCons (eVar 1) lNil)))
    (sSeq (sFor (iRng (lCons (eCall F_law_take [true, false] (lCons (eVar 0) (lCons (eC (.int 4)) (lNil)))) lNil)) (bName 3) (sSeq (sSet 4 (eCall F_law_take [true, false] (lCons (eVar 0) (lCons (eC (.int 7)) (lNil)))))
    (sSeq (sSet 5 (eCall F_law_take [true, false] (lCons (eVar 0) (lCons (eOp2 oAdd (eFn fLen (lCons (eVar 2) lNil)) (eC (.int 1))) (lNil)))))
    (sSeq (sIf (tAndM (tB (eOp2 oEq (eVar 4) (eC (.int 0)))) (tB (eOp2 oLt (eFn fLen (lCons (eVar 2) lNil)) (eC (.int 16))))) (sExpr (eMut 2 uInsert (lCons (eVar 5) (lCons (eOp2 oAdd (eC (.int 7000)) (eFn fLen (lCons (eVar 2) lNil))) (lNil))))) (sSkip))
    (sSeq (sIf (tAndM (tB (eOp2 oEq (eVar 4) (eC (.int 1)))) (tB (eOp2 oLe (eFn fLen (lCons (eVar 2) lNil)) (eC (.int 12))))) (sSeq (sSet 6 (eOp2 oAdd (eOp2 oSub (eC (.int 13)) (eFn fLen (lCons (eVar 2) lNil))) (eCall F_law_take [true, false] (lCons (eVar 0) (lCons (eC (.int 3)) (lNil))))))
    (sOwn 2 (eOp2 oAdd (eVar 2) (eLc (iRng (lCons (eVar 6) lNil)) [7] (bName 7) (tYesM) (eOp2 oAdd (eC (.int 8000)) (eVar 7)))))) (sSkip))
    (sSeq (sIf (tAndM (tB (eOp2 oEq (eVar 4) (eC (.int 2)))) (tB (eOp2 oLt (eVar 5) (eFn fLen (lCons (eVar 2) lNil))))) (sItem 2 (eVar 5) (eOp2 oSub (eNeg (eC (.int 1))) (eCall F_law_take [true, false] (lCons (eVar 0) (lCons (eC (.int 9999)) (lNil)))))) (sSkip))
    (sSeq (sIf (tAndM (tB (eOp2 oEq (eVar 4) (eC (.int 3)))) (tB (eOp2 oLt (eVar 5) (eFn fLen (lCons (eVar 2) lNil))))) (sItem 2 (eVar 5) (eOp2 oAdd (eC (.int 10000)) (eCall F_law_take [true, false] (lCons (eVar 0) (lCons (eC (.int 90000)) (lNil)))))) (sSkip))
    (sSeq (sIf (tAndM (tB (eOp2 oEq (eVar 4) (eC (.int 4)))) (tB (eOp2 oLt (eVar 5) (eFn fLen (lCons (eVar 2) lNil))))) (sItem 2 (eVar 5) (eOp2 oIx (eLst (lCons (eC (.int 0)) (lCons (eC (.int 9999)) (lCons (eC (.int 10000)) (lCons (eNeg (eC (.int 1))) (lNil)))))) (eCall F_law_take [true, false] (lCons (eVar 0) (lCons (eC (.int 4)) (lNil)))))) (sSkip))
    (sSeq (sIf (tAndM (tB (eOp2 oEq (eVar 4) (eC (.int 5)))) (tB (eOp2 oLt (eVar 5) (eFn fLen (lCons (eVar 2) lNil))))) (sItem 2 (eVar 5) (eOp2 oIx (eVar 2) (eCall F_law_take [true, false] (lCons (eVar 0) (lCons (eFn fLen (lCons (eVar 2) lNil)) (lNil)))))) (sSkip))
    (sIf (tAndM (tB (eOp2 oEq (eVar 4) (eC (.int 6)))) (tB (eOp2 oLt (eVar 5) (eFn fLen (lCons (eVar 2) lNil))))) (sExpr (eMut 2 uPopAt (lCons (eVar 5) (lNil)))) (sSkip)))))))))))
    (sRet (eVar 2)))
def F_law_bent : FM := fnM 8 m_law_bent
def m_law_exchanged : SM := sSeq (sOwn 2 (eFn fList (lCons (eVar 0) lNil)))
    (sSeq (sItem 2 (eVar 1) (eOp2 oIx (eVar 0) (eOp2 oAdd (eVar 1) (eC (.int 1)))))
    (sSeq (sItem 2 (eOp2 oAdd (eVar 1) (eC (.int 1))) (eOp2 oIx (eVar 0) (eVar 1)))
    (sRet (eVar 2))))
def F_law_exchanged : FM := fnM 3 m_law_exchanged
def m_law_second : SM := sSeq (sSet 2 (eCall F_law_take [true, false] (lCons (eVar 0) (lCons (eC (.int 4)) (lNil)))))
    (sSeq (sIf (tB (eOp2 oEq (eVar 2) (eC (.int 0)))) (sRet (eCall F_law_order [true, false] (lCons (eVar 0) (lCons (eVar 1) (lNil))))) (sSkip))
    (sSeq (sOwn 3 (eFn fList (lCons (eVar 1) lNil)))
    (sSeq (sIf (tB (eOp2 oEq (eVar 2) (eC (.int 1)))) (sExpr (eMut 3 uReverse lNil)) (sSkip))
    (sSeq (sIf (tAndM (tB (eOp2 oEq (eVar 2) (eC (.int 2)))) (tB (eOp2 oGt (eFn fLen (lCons (eVar 3) lNil)) (eC (.int 1))))) (sFor (iRng (lCons (eCall F_law_take [true, false] (lCons (eVar 0) (lCons (eC (.int 7)) (lNil)))) lNil)) (bName 4) (sOwn 3 (eCall F_law_exchanged [false, false] (lCons (eVar 3) (lCons (eCall F_law_take [true, false] (lCons (eVar 0) (lCons (eOp2 oSub (eFn fLen (lCons (eVar 3) lNil)) (eC (.int 1))) (lNil)))) (lNil)))))) (sSkip))
    (sRet (eVar 3))))))
def F_law_second : FM := fnM 5 m_law_second
def m_law_differing : SM := sSeq (sOwn 2 (eLst (lNil)))
    (sSeq (sFor (iLst (eFn fSortI (lCons (eVar 0) lNil))) (bName 3) (sFor (iLst (eFn fSortI (lCons (eVar 0) lNil))) (bName 4) (sIf (tAndM (tB (eOp2 oLt (eMeth isLK mIndex (eVar 0) (lCons (eVar 3) (lNil))) (eMeth isLK mIndex (eVar 0) (lCons (eVar 4) (lNil))))) (tB (eOp2 oLt (eMeth isLK mIndex (eVar 1) (lCons (eVar 4) (lNil))) (eMeth isLK mIndex (eVar 1) (lCons (eVar 3) (lNil)))))) (sExpr (eMut 2 uAppend (lCons (eTup (lCons (eVar 3) (lCons (eVar 4) (lNil)))) (lNil)))) (sSkip))))
    (sRet (eVar 2)))
def F_law_differing : FM := fnM 5 m_law_differing
def m_law_straight : SM := sSeq (sIf (tOrM (tNotM (tTr (eIsi (eVar 2) "list"))) (tNotM (tTr (eFn fAll (lCons (eLc (iLst (eVar 2)) [4] (bName 4) (tYesM) (eCall F_law_int [false] (lCons (eVar 4) (lNil)))) lNil))))) (sRet (eC (.bl false))) (sSkip))
    (sSeq (sIf (tB (eOp2 oNe (eFn fLen (lCons (eVar 2) lNil)) (eFn fLen (lCons (eCall F_law_differing [false, false] (lCons (eVar 0) (lCons (eVar 1) (lNil)))) lNil)))) (sRet (eC (.bl false))) (sSkip))
    (sSeq (sSet 3 (eFn fList (lCons (eVar 0) lNil)))
    (sSeq (sFor (iLst (eVar 2)) (bName 4) (sSeq (sStore (setV 5) (eLc (iRng (lCons (eOp2 oSub (eFn fLen (lCons (eVar 3) lNil)) (eC (.int 1))) lNil)) [6] (bName 6) (tB (eOp2 oLt (eMeth isLK mIndex (eVar 1) (lCons (eOp2 oIx (eVar 3) (eOp2 oAdd (eVar 6) (eC (.int 1)))) (lNil))) (eMeth isLK mIndex (eVar 1) (lCons (eOp2 oIx (eVar 3) (eVar 6)) (lNil))))) (eVar 6)))
    (sSeq (sIf (tOrM (tNotM (tTr (eVar 5))) (tB (eOp2 oNe (eVar 4) (eOp2 oIx (eVar 5) (eC (.int 0)))))) (sRet (eC (.bl false))) (sSkip))
    (sSet 3 (eCall F_law_exchanged [false, false] (lCons (eVar 3) (lCons (eVar 4) (lNil))))))))
    (sRet (eOp2 oEq (eVar 3) (eVar 1))))))
def F_law_straight : FM := fnM 7 m_law_straight
def m_law_ask : SM := sSeq (sTry (sIf (tB (eOp2 oEq (eVar 0) (eC (.int 0)))) (sSetX true 5 (eCall Fcheck_list [false] (lCons (eVar 1) (lNil)))) (sIf (tB (eOp2 oEq (eVar 0) (eC (.int 1)))) (sSetX true 5 (eCall Fswap_at [false, false] (lCons (eVar 1) (lCons (eVar 3) (lNil))))) (sIf (tB (eOp2 oEq (eVar 0) (eC (.int 2)))) (sSetX true 5 (eCall Fdiffering_pairs [false, false] (lCons (eVar 1) (lCons (eVar 2) (lNil))))) (sSetX true 5 (eCall Fstraight_swaps [false, false] (lCons (eVar 1) (lCons (eVar 2) (lNil)))))))) [⟨[(1, true), (2, false), (3, false)], some 4, sSeq (sSet 6 (eAndV (eXis 4 [(1, true), (2, true), (3, true)]) (eXis 4 [(1, true), (2, true), (3, true)])))
    (sSeq (sSet 6 (eAndV (eVar 6) (eAndV (eNotV (eXis 4 [(1, false), (2, true), (3, false)])) (eNotV (eXis 4 [(1, false), (2, false), (3, true)])))))
    (sRet (eTup (lCons (eC (.str (Str.ofString "list"))) (lCons (eXf 4 (Str.ofString "place") [1]) (lCons (eVar 6) (lNil)))))))⟩, ⟨[(1, false), (2, true), (3, false)], some 4, sSeq (sSet 6 (eAndV (eXis 4 [(1, true), (2, true), (3, true)]) (eXis 4 [(1, true), (2, true), (3, true)])))
    (sRet (eTup (lCons (eC (.str (Str.ofString "unlike"))) (lCons (eXf 4 (Str.ofString "key") [2]) (lCons (eAndV (eVar 6) (eNotV (eXis 4 [(1, false), (2, false), (3, true)]))) (lNil))))))⟩, ⟨[(1, false), (2, false), (3, true)], some 4, sRet (eTup (lCons (eC (.str (Str.ofString "swap"))) (lCons (eXf 4 (Str.ofString "step") [3]) (lCons (eAndV (eXis 4 [(1, true), (2, true), (3, true)]) (eXis 4 [(1, true), (2, true), (3, true)])) (lNil)))))⟩])
    (sRetM [5] (lCons (eC (.str (Str.ofString "told"))) (lCons (eVar 5) (lCons (eC (.bl true)) (lNil)))))
def F_law_ask : FM := fnM 7 m_law_ask
def m_law_due : SM := sSeq (sSet 4 (eCall F_law_wrong [false] (lCons (eVar 1) (lNil))))
    (sSeq (sIf (tB (eOp2 oNotN (eVar 4) (eC .non))) (sRet (eTup (lCons (eC (.str (Str.ofString "list"))) (lCons (eVar 4) (lNil))))) (sSkip))
    (sSeq (sIf (tAndM (tB (eOp2 oEq (eVar 0) (eC (.int 1)))) (tOrM (tB (eOp2 oLt (eVar 3) (eC (.int 0)))) (tB (eOp2 oGt (eVar 3) (eOp2 oSub (eFn fLen (lCons (eVar 1) lNil)) (eC (.int 2))))))) (sRet (eTup (lCons (eC (.str (Str.ofString "swap"))) (lCons (eC (.int 0)) (lNil))))) (sSkip))
    (sSeq (sIf (tB (eOp2 oLt (eVar 0) (eC (.int 2)))) (sRet (eTup (lCons (eC (.str (Str.ofString "told"))) (lCons (eC (.int 0)) (lNil))))) (sSkip))
    (sSeq (sSet 4 (eCall F_law_wrong [false] (lCons (eVar 2) (lNil))))
    (sSeq (sIf (tB (eOp2 oNotN (eVar 4) (eC .non))) (sRet (eTup (lCons (eC (.str (Str.ofString "list"))) (lCons (eVar 4) (lNil))))) (sSkip))
    (sSeq (sSet 5 (eCall F_law_unlike [false, false] (lCons (eVar 1) (lCons (eVar 2) (lNil)))))
    (sSeq (sIf (tB (eOp2 oNotN (eVar 5) (eC .non))) (sRet (eTup (lCons (eC (.str (Str.ofString "unlike"))) (lCons (eVar 5) (lNil))))) (sSkip))
    (sRet (eTup (lCons (eC (.str (Str.ofString "told"))) (lCons (eC (.int 0)) (lNil))))))))))))
def F_law_due : FM := fnM 6 m_law_due
def m_law_asked : SM := sSeq (sSet 4 (eLst (lCons (eFn fList (lCons (eVar 1) lNil)) (lCons (eFn fList (lCons (eVar 2) lNil)) (lNil)))))
    (sSeq (sSetX true 5 (eCall F_law_ask [false, false, false, false] (lCons (eVar 0) (lCons (eOp2 oIx (eVar 4) (eC (.int 0))) (lCons (eOp2 oIx (eVar 4) (eC (.int 1))) (lCons (eVar 3) (lNil)))))))
    (sSeq (sSet 6 (eCall F_law_due [false, false, false, false] (lCons (eVar 0) (lCons (eVar 1) (lCons (eVar 2) (lCons (eVar 3) (lNil)))))))
    (sSeq (sIf (tOrM (tB (eOp2 oNe (eKid 5 0) (eOp2 oIx (eVar 6) (eC (.int 0))))) (tOrM (tNotM (tTr (eKid 5 2))) (tOrM (tB (eOp2 oNe (eOp2 oIx (eVar 4) (eC (.int 0))) (eVar 1))) (tB (eOp2 oNe (eOp2 oIx (eVar 4) (eC (.int 1))) (eVar 2)))))) (sRet (eC (.bl false))) (sSkip))
    (sSeq (sIf (tB (eOp2 oNe (eOp2 oIx (eVar 6) (eC (.int 0))) (eC (.str (Str.ofString "told"))))) (sRet (eAndV (eCall F_law_int [false] (lCons (eKid 5 1) (lNil))) (eOp2 oEq (eKid 5 1) (eOp2 oIx (eVar 6) (eC (.int 1)))))) (sSkip))
    (sSeq (sIf (tB (eOp2 oEq (eVar 0) (eC (.int 0)))) (sRet (eOp2 oIsN (eKid 5 1) (eC .non))) (sSkip))
    (sSeq (sIf (tB (eOp2 oEq (eVar 0) (eC (.int 1)))) (sSeq (sIf (tNotM (tTr (eCall F_law_ints [false, false] (lCons (eKid 5 1) (lCons (eCall F_law_exchanged [false, false] (lCons (eVar 1) (lCons (eVar 3) (lNil)))) (lNil)))))) (sRet (eC (.bl false))) (sSkip))
    (sSeq (sSetX true 7 (eKid 5 1))
    (sSeq (sExpr (eMutP (eVar 7) uAppend (lCons (eC (.int 0)) (lNil))))
    (sRet (eOp2 oEq (eOp2 oIx (eVar 4) (eC (.int 0))) (eVar 1)))))) (sSkip))
    (sSeq (sIf (tB (eOp2 oEq (eVar 0) (eC (.int 2)))) (sRet (eCall F_law_tuples [false, false] (lCons (eKid 5 1) (lCons (eCall F_law_differing [false, false] (lCons (eVar 1) (lCons (eVar 2) (lNil)))) (lNil))))) (sSkip))
    (sRet (eCall F_law_straight [false, false, false] (lCons (eVar 1) (lCons (eVar 2) (lCons (eKid 5 1) (lNil)))))))))))))
def F_law_asked : FM := fnM 8 m_law_asked
def mlaw : SM := sSeq (sOwn 1 (eCall F_law_box [false] (lCons (eVar 0) (lNil))))
    (sSeq (sSet 2 (eCall F_law_take [true, false] (lCons (eVar 1) (lCons (eC (.int 7)) (lNil)))))
    (sSeq (sIf (tB (eOp2 oEq (eCall F_law_take [true, false] (lCons (eVar 1) (lCons (eC (.int 4)) (lNil)))) (eC (.int 0)))) (sSet 2 (eCall F_law_take [true, false] (lCons (eVar 1) (lCons (eC (.int 13)) (lNil))))) (sSkip))
    (sSeq (sSet 3 (eCall F_law_widened [true, false] (lCons (eVar 1) (lCons (eCall F_law_keys [true, false] (lCons (eVar 1) (lCons (eVar 2) (lNil)))) (lNil)))))
    (sSeq (sSet 4 (eCall F_law_second [true, false] (lCons (eVar 1) (lCons (eVar 3) (lNil)))))
    (sSeq (sSet 5 (eCall F_law_bent [true, false] (lCons (eVar 1) (lCons (eVar 3) (lNil)))))
    (sSeq (sSet 6 (eCall F_law_bent [true, false] (lCons (eVar 1) (lCons (eVar 4) (lNil)))))
    (sSeq (sSet 7 (eOp2 oSub (eCall F_law_take [true, false] (lCons (eVar 1) (lCons (eC (.int 40)) (lNil)))) (eC (.int 20))))
    (sSeq (sFor (iRng (lCons (eC (.int 4)) lNil)) (bName 8) (sSeq (sIf (tOrM (tNotM (tTr (eCall F_law_asked [false, false, false, false] (lCons (eVar 8) (lCons (eVar 3) (lCons (eVar 4) (lCons (eVar 7) (lNil)))))))) (tNotM (tTr (eCall F_law_asked [false, false, false, false] (lCons (eVar 8) (lCons (eVar 4) (lCons (eVar 3) (lCons (eVar 7) (lNil))))))))) (sRet (eC (.bl false))) (sSkip))
    (sSeq (sIf (tOrM (tNotM (tTr (eCall F_law_asked [false, false, false, false] (lCons (eVar 8) (lCons (eVar 5) (lCons (eVar 4) (lCons (eVar 7) (lNil)))))))) (tNotM (tTr (eCall F_law_asked [false, false, false, false] (lCons (eVar 8) (lCons (eVar 3) (lCons (eVar 6) (lCons (eVar 7) (lNil))))))))) (sRet (eC (.bl false))) (sSkip))
    (sIf (tOrM (tNotM (tTr (eCall F_law_asked [false, false, false, false] (lCons (eVar 8) (lCons (eVar 5) (lCons (eVar 6) (lCons (eVar 7) (lNil)))))))) (tNotM (tTr (eCall F_law_asked [false, false, false, false] (lCons (eVar 8) (lCons (eVar 6) (lCons (eVar 5) (lCons (eVar 7) (lNil))))))))) (sRet (eC (.bl false))) (sSkip)))))
    (sSeq (sFor (iRng (lCons (eOp2 oAdd (eVar 2) (eC (.int 3))) lNil)) (bName 9) (sIf (tNotM (tTr (eCall F_law_asked [false, false, false, false] (lCons (eC (.int 1)) (lCons (eVar 3) (lCons (eVar 4) (lCons (eOp2 oSub (eVar 9) (eC (.int 2))) (lNil)))))))) (sRet (eC (.bl false))) (sSkip)))
    (sRet (eAndV (eCall F_law_asked [false, false, false, false] (lCons (eC (.int 2)) (lCons (eVar 3) (lCons (eVar 3) (lCons (eC (.int 0)) (lNil)))))) (eCall F_law_asked [false, false, false, false] (lCons (eC (.int 3)) (lCons (eVar 4) (lCons (eVar 4) (lCons (eC (.int 0)) (lNil)))))))))))))))))
def Flaw : FM := fnM 10 mlaw
/-! the derivations -/
section
variable {P : Program} {w : World} {K : PySem.W.Frag} {mg : Str → Option Value} {base : Heap} {cA ad aI : Nat → Addr} {fdv fdI : Nat → FuncData}
theorem scI1 : FnScope ["self", "place"] ["self", "place"] (defScope sInit1) := ⟨rfl, rfl, rfl, by decide +kernel, rfl, by decide +kernel, by decide +kernel⟩
theorem okInit1 (V : Env K mg cA ad fdv aI fdI) : FnOk P w K mg base (L2.CX P w) 1 (aI 1) (fdI 1) ["self", "place"] (spI K (cA 1) "place") :=
  fn_init V.c1.fn scI1 rfl V.c1.T V.c1.noF fun cdv A outer s H E => pss_cons (ps_ost (pv 0) (pv 1)) pss_nil
theorem scI2 : FnScope ["self", "key"] ["self", "key"] (defScope sInit2) := ⟨rfl, rfl, rfl, by decide +kernel, rfl, by decide +kernel, by decide +kernel⟩
theorem okInit2 (V : Env K mg cA ad fdv aI fdI) : FnOk P w K mg base (L2.CX P w) 1 (aI 2) (fdI 2) ["self", "key"] (spI K (cA 2) "key") :=
  fn_init V.c2.fn scI2 rfl V.c2.T V.c2.noF fun cdv A outer s H E => pss_cons (ps_ost (pv 0) (pv 1)) pss_nil
theorem scI3 : FnScope ["self", "step"] ["self", "step"] (defScope sInit3) := ⟨rfl, rfl, rfl, by decide +kernel, rfl, by decide +kernel, by decide +kernel⟩
theorem okInit3 (V : Env K mg cA ad fdv aI fdI) : FnOk P w K mg base (L2.CX P w) 1 (aI 3) (fdI 3) ["self", "step"] (spI K (cA 3) "step") :=
  fn_init V.c3.fn scI3 rfl V.c3.T V.c3.noF fun cdv A outer s H E => pss_cons (ps_ost (pv 0) (pv 1)) pss_nil
abbrev Nfirst_wrong_place : List Str := ["order", "place", "key"]
theorem scfirst_wrong_place : FnScope ["order", "place", "key"] ["order"] (defScope sfirst_wrong_place) := ⟨rfl, rfl, rfl, by decide +kernel, rfl, by decide +kernel, by decide +kernel⟩
theorem okfirst_wrong_place (V : Env K mg cA ad fdv aI fdI) : FnOk P w K mg base (L2.CX P w) 1 (ad 0) (fdv 0) ["order"] (spF cA K 1 Ffirst_wrong_place) :=
  fn_def V.dfirst_wrong_place.fn scfirst_wrong_place (by decide) fun cdv A outer s H E hr => have S := scfirst_wrong_place
    (sss_cons (ss_for (passes_of rfl) rfl (si_enum rfl V.z_enumerate (se_var 0)) (pg_tup rfl (pgs_cons (pg_name (i := 1) S.nd rfl (by first | exact Or.inl rfl | exact Or.inr rfl)) (pgs_cons (pg_name (i := 2) S.nd rfl (by first | exact Or.inl rfl | exact Or.inr rfl)) pgs_nil))) (b_tup (b_cons b_name (b_cons b_name b_nil)) rfl) (sss_one (ss_if (st_w (stw_or (t_ge (se_var 1) (se_globI rfl V.g_MOST_KEYS.choose_spec)) (stw_or (t_lt (se_var 2) se_int) (stw_or (t_gt (se_var 2) (se_globI rfl V.g_GREATEST_KEY.choose_spec)) (stw_or1 (t_in hr.units (se_var 2) (se_sl (se_var 0) so_none (so_some (se_var 1))))))))) (sss_one (ss_ret (se_var 1))) sss_nil)))
    (sss_one (ss_ret se_non)))
abbrev Ncheck_like_keys : List Str := ["first", "second", "unlike"]
theorem sccheck_like_keys : FnScope ["first", "second", "unlike"] ["first", "second"] (defScope scheck_like_keys) := ⟨rfl, rfl, rfl, by decide +kernel, rfl, by decide +kernel, by decide +kernel⟩
theorem okcheck_like_keys (V : Env K mg cA ad fdv aI fdI) : FnOk P w K mg base (L2.CX P w) 3 (ad 1) (fdv 1) ["first", "second"] (spF cA K 2 Fcheck_like_keys) :=
  fn_def V.dcheck_like_keys.fn sccheck_like_keys (by decide) fun cdv A outer s H E hr => have S := sccheck_like_keys
    (sss_cons (ss_set S.nd rfl (by first | exact Or.inl rfl | exact Or.inr rfl) (se_xor 0 1 (by rfl) (by rfl) V.z_sorted PyProof.Rows.boot_sorted (by rfl) V.z_set PyProof.Rows.boot_set))
    (sss_one (ss_if (st_truth (se_var 2) (by intro _; rfl)) (sss_one (ss_raise rfl V.c2.T V.c2.iC V.c2.tI (okInit2 V) (hr.mono (by decide)) V.c2.bd rfl V.c2.mg (se_ix (se_var 2) se_int fun _ _ => rfl))) sss_nil)))
abbrev Npairs_in : List Str := ["order", "place", "x", "y"]
theorem scpairs_in : FnScope ["order", "place", "x", "y"] ["order"] (defScope spairs_in) := ⟨rfl, rfl, rfl, by decide +kernel, rfl, by decide +kernel, by decide +kernel⟩
theorem okpairs_in (V : Env K mg cA ad fdv aI fdI) : FnOk P w K mg base (L2.CX P w) 1 (ad 2) (fdv 2) ["order"] (spF cA K 1 Fpairs_in) :=
  fn_def V.dpairs_in.fn scpairs_in (by decide) fun cdv A outer s H E hr => have S := scpairs_in
    (sss_one (ss_ret (se_lc2 (own := [(Str.ofString "place", 1), (Str.ofString "x", 2), (Str.ofString "y", 3)]) (vs1 := [3]) rfl (si_enum rfl V.z_enumerate (se_var 0)) (b_tup (b_cons b_name (b_cons b_name b_nil)) rfl) (tw_tup (tw_cons gm_name (gm_cons gm_name gm_nil) (tw_name (by decide)) (tw_cons gm_name gm_nil (tw_name (by decide)) tw_nil))) b_name (tw_name (by decide)) (by decide) (fun wi pi => pe_lc2 rfl S.nd pi (blkOk_by (N := Npairs_in) (sc := defScope spairs_in) (by decide +kernel)) (by decide) (fun _ _ _ _ _ => (pg_tup rfl (pgs_cons (pg_name (i := 1) S.nd rfl (by first | exact Or.inl rfl | exact Or.inr rfl)) (pgs_cons (pg_name (i := 2) S.nd rfl (by first | exact Or.inl rfl | exact Or.inr rfl)) pgs_nil)))) (fun _ _ _ _ _ => (yes_any pts_nil)) (fun _ _ _ _ _ => SI.any (si_lst (se_sl (se_var 0) (so_some (q_add (se_var 1) se_int)) so_none))) (fun _ _ _ _ _ => (pg_name (i := 3) S.nd rfl (by first | exact Or.inl rfl | exact Or.inr rfl))) (fun _ _ _ _ _ => (yes_any pts_nil)) (fun _ _ _ _ _ => SE.any (se_tup (sl_cons (se_var 2) (sl_cons (se_var 3) sl_nil))))))))
abbrev Ncheck_list : List Str := ["order", "place"]
theorem sccheck_list : FnScope ["order", "place"] ["order"] (defScope scheck_list) := ⟨rfl, rfl, rfl, by decide +kernel, rfl, by decide +kernel, by decide +kernel⟩
theorem okcheck_list (V : Env K mg cA ad fdv aI fdI) : FnOk P w K mg base (L2.CX P w) 3 (ad 3) (fdv 3) ["order"] (spF cA K 1 Fcheck_list) :=
  fn_def V.dcheck_list.fn sccheck_list (by decide) fun cdv A outer s H E hr => have S := sccheck_list
    (sss_cons (ss_set S.nd rfl (by first | exact Or.inl rfl | exact Or.inr rfl) (se_call (okfirst_wrong_place V) (hr.mono (by decide)) rfl V.dfirst_wrong_place.mg V.dfirst_wrong_place.fn.kp V.dfirst_wrong_place.bd (sl_cons (se_var 0) sl_nil) (lCons_len lNil_len)))
    (sss_one (ss_if (t_notN (se_var 1) se_non) (sss_one (ss_raise rfl V.c1.T V.c1.iC V.c1.tI (okInit1 V) (hr.mono (by decide)) V.c1.bd rfl V.c1.mg (se_var 1))) sss_nil)))
abbrev Nswap_at : List Str := ["order", "index"]
theorem scswap_at : FnScope ["order", "index"] ["order", "index"] (defScope sswap_at) := ⟨rfl, rfl, rfl, by decide +kernel, rfl, by decide +kernel, by decide +kernel⟩
theorem okswap_at (V : Env K mg cA ad fdv aI fdI) : FnOk P w K mg base (L2.CX P w) 4 (ad 4) (fdv 4) ["order", "index"] (spF cA K 2 Fswap_at) :=
  fn_def V.dswap_at.fn scswap_at (by decide) fun cdv A outer s H E hr => have S := scswap_at
    (sss_cons (ss_expr (se_call (okcheck_list V) (hr.mono (by decide)) rfl V.dcheck_list.mg V.dcheck_list.fn.kp V.dcheck_list.bd (sl_cons (se_var 0) sl_nil) (lCons_len lNil_len)))
    (sss_cons (ss_if (st_w (stw_or (t_lt (se_var 1) se_int) (stw_or1 (t_gt (se_var 1) (q_sub (f_len V.z_len (se_var 0)) se_int))))) (sss_one (ss_raise rfl V.c3.T V.c3.iC V.c3.tI (okInit3 V) (hr.mono (by decide)) V.c3.bd rfl V.c3.mg se_int)) sss_nil)
    (sss_one (ss_ret (q_add (q_add (se_sl (se_var 0) so_none (so_some (se_var 1))) (se_lst (sl_cons (se_ix (se_var 0) (q_add (se_var 1) se_int) fun _ _ => rfl) (sl_cons (se_ix (se_var 0) (se_var 1) fun _ _ => rfl) sl_nil)))) (se_sl (se_var 0) (so_some (q_add (se_var 1) se_int)) so_none))))))
abbrev Ncheck_two_lists : List Str := ["first", "second"]
theorem sccheck_two_lists : FnScope ["first", "second"] ["first", "second"] (defScope scheck_two_lists) := ⟨rfl, rfl, rfl, by decide +kernel, rfl, by decide +kernel, by decide +kernel⟩
theorem okcheck_two_lists (V : Env K mg cA ad fdv aI fdI) : FnOk P w K mg base (L2.CX P w) 4 (ad 7) (fdv 7) ["first", "second"] (spF cA K 2 Fcheck_two_lists) :=
  fn_def V.dcheck_two_lists.fn sccheck_two_lists (by decide) fun cdv A outer s H E hr => have S := sccheck_two_lists
    (sss_cons (ss_expr (se_call (okcheck_list V) (hr.mono (by decide)) rfl V.dcheck_list.mg V.dcheck_list.fn.kp V.dcheck_list.bd (sl_cons (se_var 0) sl_nil) (lCons_len lNil_len)))
    (sss_cons (ss_expr (se_call (okcheck_list V) (hr.mono (by decide)) rfl V.dcheck_list.mg V.dcheck_list.fn.kp V.dcheck_list.bd (sl_cons (se_var 1) sl_nil) (lCons_len lNil_len)))
    (sss_one (ss_expr (se_call (okcheck_like_keys V) (hr.mono (by decide)) rfl V.dcheck_like_keys.mg V.dcheck_like_keys.fn.kp V.dcheck_like_keys.bd (sl_cons (se_var 0) (sl_cons (se_var 1) sl_nil)) (lCons_len (lCons_len lNil_len)))))))
abbrev Ndiffering_pairs : List Str := ["first", "second", "x", "y"]
theorem scdiffering_pairs : FnScope ["first", "second", "x", "y"] ["first", "second"] (defScope sdiffering_pairs) := ⟨rfl, rfl, rfl, by decide +kernel, rfl, by decide +kernel, by decide +kernel⟩
theorem okdiffering_pairs (V : Env K mg cA ad fdv aI fdI) : FnOk P w K mg base (L2.CX P w) 5 (ad 5) (fdv 5) ["first", "second"] (spF cA K 2 Fdiffering_pairs) :=
  fn_def V.ddiffering_pairs.fn scdiffering_pairs (by decide) fun cdv A outer s H E hr => have S := scdiffering_pairs
    (sss_cons (ss_expr (se_call (okcheck_two_lists V) (hr.mono (by decide)) rfl V.dcheck_two_lists.mg V.dcheck_two_lists.fn.kp V.dcheck_two_lists.bd (sl_cons (se_var 0) (sl_cons (se_var 1) sl_nil)) (lCons_len (lCons_len lNil_len))))
    (sss_one (ss_ret (f_sortP V.z_sorted (se_lc (own := [(Str.ofString "x", 2), (Str.ofString "y", 3)]) rfl (si_lst (se_call (okpairs_in V) (hr.mono (by decide)) rfl V.dpairs_in.mg V.dpairs_in.fn.kp V.dpairs_in.bd (sl_cons (se_var 0) sl_nil) (lCons_len lNil_len))) (b_tup (b_cons b_name (b_cons b_name b_nil)) rfl) (tw_tup (tw_cons gm_name (gm_cons gm_name gm_nil) (tw_name (by decide)) (tw_cons gm_name gm_nil (tw_name (by decide)) tw_nil))) (fun wi tt te pi ht he => pe_lc rfl S.nd pi (blkOk_by (N := Ndiffering_pairs) (sc := defScope sdiffering_pairs) (by decide +kernel)) (fun _ _ _ _ _ => (pg_tup rfl (pgs_cons (pg_name (i := 2) S.nd rfl (by first | exact Or.inl rfl | exact Or.inr rfl)) (pgs_cons (pg_name (i := 3) S.nd rfl (by first | exact Or.inl rfl | exact Or.inr rfl)) pgs_nil)))) ht he) (fun _ _ _ _ _ => (pts_one (ST.any (t_lt (se_methL sim_index (fun to t ho ha => pe_bm PySem.F.plainAttrs_list PySem.F.slot_list_index PySem.F.type_list_index mt_index ho ha) (se_var 1) (sl_cons (se_var 3) sl_nil)) (se_methL sim_index (fun to t ho ha => pe_bm PySem.F.plainAttrs_list PySem.F.slot_list_index PySem.F.type_list_index mt_index ho ha) (se_var 1) (sl_cons (se_var 2) sl_nil)))))) (fun _ _ _ _ _ => (se_tup (sl_cons (se_var 2) (sl_cons (se_var 3) sl_nil)))))))))
abbrev Nfirst_turned : List Str := ["order", "goal", "index"]
theorem scfirst_turned : FnScope ["order", "goal", "index"] ["order", "goal"] (defScope sfirst_turned) := ⟨rfl, rfl, rfl, by decide +kernel, rfl, by decide +kernel, by decide +kernel⟩
theorem okfirst_turned (V : Env K mg cA ad fdv aI fdI) : FnOk P w K mg base (L2.CX P w) 1 (ad 8) (fdv 8) ["order", "goal"] (spF cA K 2 Ffirst_turned) :=
  fn_def V.dfirst_turned.fn scfirst_turned (by decide) fun cdv A outer s H E hr => have S := scfirst_turned
    (sss_cons (ss_for (passes_of rfl) rfl (si_rng1 rfl V.z_range (q_sub (f_len V.z_len (se_var 0)) se_int)) (pg_name (i := 2) S.nd rfl (by first | exact Or.inl rfl | exact Or.inr rfl)) b_name (sss_one (ss_if (t_lt (se_methL sim_index (fun to t ho ha => pe_bm PySem.F.plainAttrs_list PySem.F.slot_list_index PySem.F.type_list_index mt_index ho ha) (se_var 1) (sl_cons (se_ix (se_var 0) (q_add (se_var 2) se_int) fun _ _ => rfl) sl_nil)) (se_methL sim_index (fun to t ho ha => pe_bm PySem.F.plainAttrs_list PySem.F.slot_list_index PySem.F.type_list_index mt_index ho ha) (se_var 1) (sl_cons (se_ix (se_var 0) (se_var 2) fun _ _ => rfl) sl_nil))) (sss_one (ss_ret (se_var 2))) sss_nil)))
    (sss_one (ss_ret se_non)))
abbrev Nstraight_swaps : List Str := ["first", "second", "order", "indexes", "index"]
theorem scstraight_swaps : FnScope ["first", "second", "order", "indexes", "index"] ["first", "second"] (defScope sstraight_swaps) := ⟨rfl, rfl, rfl, by decide +kernel, rfl, by decide +kernel, by decide +kernel⟩
theorem okstraight_swaps (V : Env K mg cA ad fdv aI fdI) : FnOk P w K mg base (L2.CX P w) 5 (ad 6) (fdv 6) ["first", "second"] (spF cA K 2 Fstraight_swaps) :=
  fn_def V.dstraight_swaps.fn scstraight_swaps (by decide) fun cdv A outer s H E hr => have S := scstraight_swaps
    (sss_cons (ss_expr (se_call (okcheck_two_lists V) (hr.mono (by decide)) rfl V.dcheck_two_lists.mg V.dcheck_two_lists.fn.kp V.dcheck_two_lists.bd (sl_cons (se_var 0) (sl_cons (se_var 1) sl_nil)) (lCons_len (lCons_len lNil_len))))
    (sss_cons (ss_set S.nd rfl (by first | exact Or.inl rfl | exact Or.inr rfl) (f_list V.z_list (se_var 0)))
    (sss_cons (ss_own S.nd rfl (by first | exact Or.inl rfl | exact Or.inr rfl) (se_lst sl_nil))
    (sss_cons (ss_set S.nd rfl (by first | exact Or.inl rfl | exact Or.inr rfl) (se_call (okfirst_turned V) (hr.mono (by decide)) rfl V.dfirst_turned.mg V.dfirst_turned.fn.kp V.dfirst_turned.bd (sl_cons (se_var 2) (sl_cons (se_var 1) sl_nil)) (lCons_len (lCons_len lNil_len))))
    (sss_cons (ss_while (n := 1000) (passes_of rfl) (t_notN (se_var 4) se_non) (sss_cons (ss_expr (se_mut (i := 3) sim_append (fun t ha => pe_bm PySem.F.plainAttrs_list PySem.F.slot_list_append PySem.F.type_list_append mt_append (pv 3) ha) (sl_cons (se_var 4) sl_nil)))
    (sss_cons (ss_set S.nd rfl (by first | exact Or.inl rfl | exact Or.inr rfl) (se_call (okswap_at V) (hr.mono (by decide)) rfl V.dswap_at.mg V.dswap_at.fn.kp V.dswap_at.bd (sl_cons (se_var 2) (sl_cons (se_var 4) sl_nil)) (lCons_len (lCons_len lNil_len))))
    (sss_one (ss_set S.nd rfl (by first | exact Or.inl rfl | exact Or.inr rfl) (se_call (okfirst_turned V) (hr.mono (by decide)) rfl V.dfirst_turned.mg V.dfirst_turned.fn.kp V.dfirst_turned.bd (sl_cons (se_var 2) (sl_cons (se_var 1) sl_nil)) (lCons_len (lCons_len lNil_len))))))))
    (sss_one (ss_ret (se_var 3))))))))
abbrev N_law_box : List Str := ["script"]
theorem sc_law_box : FnScope ["script"] ["script"] (defScope s_law_box) := ⟨rfl, rfl, rfl, by decide +kernel, rfl, by decide +kernel, by decide +kernel⟩
theorem ok_law_box (V : Env K mg cA ad fdv aI fdI) : FnOk P w K mg base (L2.CX P w) 1 (ad 9) (fdv 9) ["script"] (spF cA K 1 F_law_box) :=
  fn_def V.d_law_box.fn sc_law_box (by decide) fun cdv A outer s H E hr => have S := sc_law_box
    (sss_one (ss_ret (se_lst (sl_cons (f_list V.z_list (se_sl (se_var 0) so_none (so_some se_int))) (sl_cons se_int (sl_cons se_int sl_nil))))))
abbrev N_law_take : List Str := ["box", "size", "rest", "turn", "cells", "cell", "mixed"]
theorem sc_law_take : FnScope ["box", "size", "rest", "turn", "cells", "cell", "mixed"] ["box", "size"] (defScope s_law_take) := ⟨rfl, rfl, rfl, by decide +kernel, rfl, by decide +kernel, by decide +kernel⟩
theorem ok_law_take (V : Env K mg cA ad fdv aI fdI) : FnOk P w K mg base (L2.CX P w) 1 (ad 10) (fdv 10) ["box", "size"] (spF cA K 2 F_law_take) :=
  fn_def V.d_law_take.fn sc_law_take (by decide) fun cdv A outer s H E hr => have S := sc_law_take
    (sss_cons (ss_set S.nd rfl (by first | exact Or.inl rfl | exact Or.inr rfl) (se_ix (se_var 0) se_int fun _ _ => rfl))
    (sss_cons (ss_if (t_gt (se_var 2) se_int) (sss_cons (ss_item (pv 0) se_int (q_div (se_var 2) (se_var 1)) (fun te ti he hk => ps_asg he (pg_sub (pv 0) hk set_list)))
    (sss_one (ss_ret (q_mod (f_int V.z_int (se_var 2)) (se_var 1))))) sss_nil)
    (sss_cons (ss_item (pv 0) se_int (q_add (se_ix (se_var 0) se_int fun _ _ => rfl) se_int) (fun te ti he hk => ps_asg he (pg_sub (pv 0) hk set_list)))
    (sss_cons (ss_set S.nd rfl (by first | exact Or.inl rfl | exact Or.inr rfl) (se_ix (se_var 0) se_int fun _ _ => rfl))
    (sss_cons (ss_set S.nd rfl (by first | exact Or.inl rfl | exact Or.inr rfl) (se_ix (se_var 0) se_int fun _ _ => rfl))
    (sss_cons (ss_set S.nd rfl (by first | exact Or.inl rfl | exact Or.inr rfl) se_int)
    (sss_cons (ss_if (t_le (se_var 3) (f_len V.z_len (se_var 4))) (sss_cons (ss_set S.nd rfl (by first | exact Or.inl rfl | exact Or.inr rfl) (f_abs V.z_abs (se_ix (se_var 4) (q_sub (se_var 3) se_int) fun _ _ => rfl)))
    (sss_one (ss_if (t_ge (se_var 5) (q_pow se_int se_int)) (sss_cons (ss_item (pv 0) se_int (q_div (se_var 5) (se_var 1)) (fun te ti he hk => ps_asg he (pg_sub (pv 0) hk set_list)))
    (sss_one (ss_ret (q_mod (f_int V.z_int (se_var 5)) (se_var 1))))) sss_nil))) (sss_one (ss_if (st_truth (se_var 4) (by intro _; rfl)) (sss_one (ss_set S.nd rfl (by first | exact Or.inl rfl | exact Or.inr rfl) (f_abs V.z_abs (se_ix (se_var 4) (q_mod (se_var 3) (f_len V.z_len (se_var 4))) fun _ _ => rfl)))) sss_nil)))
    (sss_cons (ss_set S.nd rfl (by first | exact Or.inl rfl | exact Or.inr rfl) (q_mod (f_int V.z_int (q_add (q_mul (q_add (se_var 5) (q_mul (se_var 3) se_int)) se_int) se_int)) se_int))
    (sss_cons (ss_set S.nd rfl (by first | exact Or.inl rfl | exact Or.inr rfl) (q_mod (f_int V.z_int (q_add (q_mul (se_var 6) (q_add (q_div (se_var 6) se_int) se_int)) (se_var 3))) se_int))
    (sss_one (ss_ret (q_mod (f_int V.z_int (q_div (se_var 6) se_int)) (se_var 1)))))))))))))
abbrev N_law_order : List Str := ["box", "keys", "left", "order", "k"]
theorem sc_law_order : FnScope ["box", "keys", "left", "order", "k"] ["box", "keys"] (defScope s_law_order) := ⟨rfl, rfl, rfl, by decide +kernel, rfl, by decide +kernel, by decide +kernel⟩
theorem ok_law_order (V : Env K mg cA ad fdv aI fdI) : FnOk P w K mg base (L2.CX P w) 2 (ad 12) (fdv 12) ["box", "keys"] (spF cA K 2 F_law_order) :=
  fn_def V.d_law_order.fn sc_law_order (by decide) fun cdv A outer s H E hr => have S := sc_law_order
    (sss_cons (ss_own S.nd rfl (by first | exact Or.inl rfl | exact Or.inr rfl) (f_list V.z_list (se_var 1)))
    (sss_cons (ss_own S.nd rfl (by first | exact Or.inl rfl | exact Or.inr rfl) (se_lst sl_nil))
    (sss_cons (ss_for (passes_of rfl) rfl (si_rng1 rfl V.z_range (f_len V.z_len (se_var 1))) (pg_name (i := 4) S.nd rfl (by first | exact Or.inl rfl | exact Or.inr rfl)) b_name (sss_one (ss_expr (se_mut (i := 3) sim_append (fun t ha => pe_bm PySem.F.plainAttrs_list PySem.F.slot_list_append PySem.F.type_list_append mt_append (pv 3) ha) (sl_cons (se_mut (i := 2) sim_popAt (fun t ha => pe_bm PySem.F.plainAttrs_list PySem.F.slot_list_pop PySem.F.type_list_pop mt_popAt (pv 2) ha) (sl_cons (se_call (ok_law_take V) (hr.mono (by decide)) rfl V.d_law_take.mg V.d_law_take.fn.kp V.d_law_take.bd (sl_cons (se_var 0) (sl_cons (f_len V.z_len (se_var 2)) sl_nil)) (lCons_len (lCons_len lNil_len))) sl_nil)) sl_nil)))))
    (sss_one (ss_ret (se_var 3))))))
abbrev N_law_keys : List Str := ["box", "count", "keys", "last", "k"]
theorem sc_law_keys : FnScope ["box", "count", "keys", "last", "k"] ["box", "count"] (defScope s_law_keys) := ⟨rfl, rfl, rfl, by decide +kernel, rfl, by decide +kernel, by decide +kernel⟩
theorem ok_law_keys (V : Env K mg cA ad fdv aI fdI) : FnOk P w K mg base (L2.CX P w) 3 (ad 11) (fdv 11) ["box", "count"] (spF cA K 2 F_law_keys) :=
  fn_def V.d_law_keys.fn sc_law_keys (by decide) fun cdv A outer s H E hr => have S := sc_law_keys
    (sss_cons (ss_own S.nd rfl (by first | exact Or.inl rfl | exact Or.inr rfl) (se_lst sl_nil))
    (sss_cons (ss_set S.nd rfl (by first | exact Or.inl rfl | exact Or.inr rfl) (se_call (ok_law_take V) (hr.mono (by decide)) rfl V.d_law_take.mg V.d_law_take.fn.kp V.d_law_take.bd (sl_cons (se_var 0) (sl_cons se_int sl_nil)) (lCons_len (lCons_len lNil_len))))
    (sss_cons (ss_for (passes_of rfl) rfl (si_rng1 rfl V.z_range (se_var 1)) (pg_name (i := 4) S.nd rfl (by first | exact Or.inl rfl | exact Or.inr rfl)) b_name (sss_cons (ss_expr (se_mut (i := 2) sim_append (fun t ha => pe_bm PySem.F.plainAttrs_list PySem.F.slot_list_append PySem.F.type_list_append mt_append (pv 2) ha) (sl_cons (se_var 3) sl_nil)))
    (sss_one (ss_set S.nd rfl (by first | exact Or.inl rfl | exact Or.inr rfl) (q_add (q_add (se_var 3) se_int) (q_mul (se_call (ok_law_take V) (hr.mono (by decide)) rfl V.d_law_take.mg V.d_law_take.fn.kp V.d_law_take.bd (sl_cons (se_var 0) (sl_cons se_int sl_nil)) (lCons_len (lCons_len lNil_len))) (se_call (ok_law_take V) (hr.mono (by decide)) rfl V.d_law_take.mg V.d_law_take.fn.kp V.d_law_take.bd (sl_cons (se_var 0) (sl_cons se_int sl_nil)) (lCons_len (lCons_len lNil_len)))))))))
    (sss_one (ss_ret (se_call (ok_law_order V) (hr.mono (by decide)) rfl V.d_law_order.mg V.d_law_order.fn.kp V.d_law_order.bd (sl_cons (se_var 0) (sl_cons (se_varZ 2) sl_nil)) (lCons_len (lCons_len lNil_len))))))))
abbrev N_law_int : List Str := ["value"]
theorem sc_law_int : FnScope ["value"] ["value"] (defScope s_law_int) := ⟨rfl, rfl, rfl, by decide +kernel, rfl, by decide +kernel, by decide +kernel⟩
theorem ok_law_int (V : Env K mg cA ad fdv aI fdI) : FnOk P w K mg base (L2.CX P w) 1 (ad 13) (fdv 13) ["value"] (spF cA K 1 F_law_int) :=
  fn_def V.d_law_int.fn sc_law_int (by decide) fun cdv A outer s H E hr => have S := sc_law_int
    (sss_one (ss_ret (se_and (f_isi V.z_isinstance V.z_int PyProof.Rows.boot_int (se_var 0)) (se_one (se_not (f_isi V.z_isinstance V.z_bool PyProof.Rows.boot_bool (se_var 0)))))))
abbrev N_law_ints : List Str := ["told", "due", "value"]
theorem sc_law_ints : FnScope ["told", "due", "value"] ["told", "due"] (defScope s_law_ints) := ⟨rfl, rfl, rfl, by decide +kernel, rfl, by decide +kernel, by decide +kernel⟩
theorem ok_law_ints (V : Env K mg cA ad fdv aI fdI) : FnOk P w K mg base (L2.CX P w) 2 (ad 14) (fdv 14) ["told", "due"] (spF cA K 2 F_law_ints) :=
  fn_def V.d_law_ints.fn sc_law_ints (by decide) fun cdv A outer s H E hr => have S := sc_law_ints
    (sss_cons (ss_if (st_w (stw_or (st_not (st_truth (f_isi V.z_isinstance V.z_list PyProof.Rows.boot_list (se_var 0)) (by intro _; rfl))) (stw_or1 (st_not (st_truth (f_all rfl V.z_all (se_lc (own := [(Str.ofString "value", 2)]) rfl (si_lst (se_var 0)) b_name (tw_name (by decide)) (fun wi tt te pi ht he => pe_lc rfl S.nd pi (blkOk_by (N := N_law_ints) (sc := defScope s_law_ints) (by decide +kernel)) (fun _ _ _ _ _ => (pg_name (i := 2) S.nd rfl (by first | exact Or.inl rfl | exact Or.inr rfl))) ht he) (fun _ _ _ _ _ => (yes_any pts_nil)) (fun _ _ _ _ _ => (se_call (ok_law_int V) (hr.mono (by decide)) rfl V.d_law_int.mg V.d_law_int.fn.kp V.d_law_int.bd (sl_cons (se_var 2) sl_nil) (lCons_len lNil_len))))) (by intro _; rfl)))))) (sss_one (ss_ret se_bl)) sss_nil)
    (sss_one (ss_ret (v_eq hr.units (se_var 0) (se_var 1)))))
abbrev N_law_tuple : List Str := ["told", "due", "value"]
theorem sc_law_tuple : FnScope ["told", "due", "value"] ["told", "due"] (defScope s_law_tuple) := ⟨rfl, rfl, rfl, by decide +kernel, rfl, by decide +kernel, by decide +kernel⟩
theorem ok_law_tuple (V : Env K mg cA ad fdv aI fdI) : FnOk P w K mg base (L2.CX P w) 2 (ad 15) (fdv 15) ["told", "due"] (spF cA K 2 F_law_tuple) :=
  fn_def V.d_law_tuple.fn sc_law_tuple (by decide) fun cdv A outer s H E hr => have S := sc_law_tuple
    (sss_cons (ss_if (st_w (stw_or (st_not (st_truth (f_isi V.z_isinstance V.z_tuple PyProof.Rows.boot_tuple (se_var 0)) (by intro _; rfl))) (stw_or1 (st_not (st_truth (f_all rfl V.z_all (se_lc (own := [(Str.ofString "value", 2)]) rfl (si_tup (se_var 0)) b_name (tw_name (by decide)) (fun wi tt te pi ht he => pe_lc rfl S.nd pi (blkOk_by (N := N_law_tuple) (sc := defScope s_law_tuple) (by decide +kernel)) (fun _ _ _ _ _ => (pg_name (i := 2) S.nd rfl (by first | exact Or.inl rfl | exact Or.inr rfl))) ht he) (fun _ _ _ _ _ => (yes_any pts_nil)) (fun _ _ _ _ _ => (se_call (ok_law_int V) (hr.mono (by decide)) rfl V.d_law_int.mg V.d_law_int.fn.kp V.d_law_int.bd (sl_cons (se_var 2) sl_nil) (lCons_len lNil_len))))) (by intro _; rfl)))))) (sss_one (ss_ret se_bl)) sss_nil)
    (sss_one (ss_ret (v_eq hr.units (se_var 0) (se_var 1)))))
abbrev N_law_tuples : List Str := ["told", "due", "k"]
theorem sc_law_tuples : FnScope ["told", "due", "k"] ["told", "due"] (defScope s_law_tuples) := ⟨rfl, rfl, rfl, by decide +kernel, rfl, by decide +kernel, by decide +kernel⟩
theorem ok_law_tuples (V : Env K mg cA ad fdv aI fdI) : FnOk P w K mg base (L2.CX P w) 3 (ad 16) (fdv 16) ["told", "due"] (spF cA K 2 F_law_tuples) :=
  fn_def V.d_law_tuples.fn sc_law_tuples (by decide) fun cdv A outer s H E hr => have S := sc_law_tuples
    (sss_cons (ss_if (st_w (stw_or (st_not (st_truth (f_isi V.z_isinstance V.z_list PyProof.Rows.boot_list (se_var 0)) (by intro _; rfl))) (stw_or1 (t_ne hr.units (f_len V.z_len (se_var 0)) (f_len V.z_len (se_var 1)))))) (sss_one (ss_ret se_bl)) sss_nil)
    (sss_one (ss_ret (f_all rfl V.z_all (se_lc (own := [(Str.ofString "k", 2)]) rfl (si_rng1 rfl V.z_range (f_len V.z_len (se_var 1))) b_name (tw_name (by decide)) (fun wi tt te pi ht he => pe_lc rfl S.nd pi (blkOk_by (N := N_law_tuples) (sc := defScope s_law_tuples) (by decide +kernel)) (fun _ _ _ _ _ => (pg_name (i := 2) S.nd rfl (by first | exact Or.inl rfl | exact Or.inr rfl))) ht he) (fun _ _ _ _ _ => (yes_any pts_nil)) (fun _ _ _ _ _ => (se_call (ok_law_tuple V) (hr.mono (by decide)) rfl V.d_law_tuple.mg V.d_law_tuple.fn.kp V.d_law_tuple.bd (sl_cons (se_ix (se_var 0) (se_var 2) fun _ _ => rfl) (sl_cons (se_ix (se_var 1) (se_var 2) fun _ _ => rfl) sl_nil)) (lCons_len (lCons_len lNil_len)))))))))
abbrev N_law_widened : List Str := ["box", "keys", "wide", "way", "place"]
theorem sc_law_widened : FnScope ["box", "keys", "wide", "way", "place"] ["box", "keys"] (defScope s_law_widened) := ⟨rfl, rfl, rfl, by decide +kernel, rfl, by decide +kernel, by decide +kernel⟩
theorem ok_law_widened (V : Env K mg cA ad fdv aI fdI) : FnOk P w K mg base (L2.CX P w) 2 (ad 17) (fdv 17) ["box", "keys"] (spF cA K 2 F_law_widened) :=
  fn_def V.d_law_widened.fn sc_law_widened (by decide) fun cdv A outer s H E hr => have S := sc_law_widened
    (sss_cons (ss_own S.nd rfl (by first | exact Or.inl rfl | exact Or.inr rfl) (f_list V.z_list (se_var 1)))
    (sss_cons (ss_set S.nd rfl (by first | exact Or.inl rfl | exact Or.inr rfl) (se_call (ok_law_take V) (hr.mono (by decide)) rfl V.d_law_take.mg V.d_law_take.fn.kp V.d_law_take.bd (sl_cons (se_var 0) (sl_cons se_int sl_nil)) (lCons_len (lCons_len lNil_len))))
    (sss_cons (ss_set S.nd rfl (by first | exact Or.inl rfl | exact Or.inr rfl) (se_call (ok_law_take V) (hr.mono (by decide)) rfl V.d_law_take.mg V.d_law_take.fn.kp V.d_law_take.bd (sl_cons (se_var 0) (sl_cons (q_add (f_len V.z_len (se_var 2)) se_int) sl_nil)) (lCons_len (lCons_len lNil_len))))
    (sss_cons (ss_if (st_w (stw_and (t_lt (se_var 4) (f_len V.z_len (se_var 2))) (stw_and1 (t_eq hr.units (se_var 3) se_int)))) (sss_one (ss_item (pv 2) (se_var 4) se_int (fun te ti he hk => ps_asg he (pg_sub (pv 2) hk set_list)))) sss_nil)
    (sss_cons (ss_if (st_w (stw_and (t_lt (se_var 4) (f_len V.z_len (se_var 2))) (stw_and (t_eq hr.units (se_var 3) se_int) (stw_and1 (t_nin hr.units se_int (se_var 2)))))) (sss_one (ss_item (pv 2) (se_var 4) se_int (fun te ti he hk => ps_asg he (pg_sub (pv 2) hk set_list)))) sss_nil)
    (sss_one (ss_ret (se_var 2))))))))
abbrev N_law_wrong : List Str := ["order", "place"]
theorem sc_law_wrong : FnScope ["order", "place"] ["order"] (defScope s_law_wrong) := ⟨rfl, rfl, rfl, by decide +kernel, rfl, by decide +kernel, by decide +kernel⟩
theorem ok_law_wrong (V : Env K mg cA ad fdv aI fdI) : FnOk P w K mg base (L2.CX P w) 1 (ad 18) (fdv 18) ["order"] (spF cA K 1 F_law_wrong) :=
  fn_def V.d_law_wrong.fn sc_law_wrong (by decide) fun cdv A outer s H E hr => have S := sc_law_wrong
    (sss_cons (ss_for (passes_of rfl) rfl (si_rng1 rfl V.z_range (f_len V.z_len (se_var 0))) (pg_name (i := 1) S.nd rfl (by first | exact Or.inl rfl | exact Or.inr rfl)) b_name (sss_one (ss_if (st_w (stw_or (t_ge (se_var 1) se_int) (stw_or (t_lt (se_ix (se_var 0) (se_var 1) fun _ _ => rfl) se_int) (stw_or (t_gt (se_ix (se_var 0) (se_var 1) fun _ _ => rfl) se_int) (stw_or1 (t_in hr.units (se_ix (se_var 0) (se_var 1) fun _ _ => rfl) (se_sl (se_var 0) so_none (so_some (se_var 1))))))))) (sss_one (ss_ret (se_var 1))) sss_nil)))
    (sss_one (ss_ret se_non)))
abbrev N_law_unlike : List Str := ["first", "second", "one", "two", "key"]
theorem sc_law_unlike : FnScope ["first", "second", "one", "two", "key"] ["first", "second"] (defScope s_law_unlike) := ⟨rfl, rfl, rfl, by decide +kernel, rfl, by decide +kernel, by decide +kernel⟩
theorem ok_law_unlike (V : Env K mg cA ad fdv aI fdI) : FnOk P w K mg base (L2.CX P w) 1 (ad 19) (fdv 19) ["first", "second"] (spF cA K 2 F_law_unlike) :=
  fn_def V.d_law_unlike.fn sc_law_unlike (by decide) fun cdv A outer s H E hr => have S := sc_law_unlike
    (sss_cons (ss_lc (own := [(Str.ofString "key", 4)]) putV rfl (si_lst (se_var 0)) b_name (tw_name (by decide)) (fun wi tt te pi ht he => ps_setLc rfl S.nd rfl rfl (sw_true rfl rfl rfl (by decide +kernel)) pi (blkOk_by (N := N_law_unlike) (sc := defScope s_law_unlike) (by decide +kernel)) (fun _ _ _ _ _ => (pg_name (i := 4) S.nd rfl (by first | exact Or.inl rfl | exact Or.inr rfl))) ht he) (fun _ _ _ _ _ => (pts_one (ST.any (t_nin hr.units (se_var 4) (se_var 1))))) (fun _ _ _ _ _ => (se_var 4)))
    (sss_cons (ss_lc (own := [(Str.ofString "key", 4)]) putV rfl (si_lst (se_var 1)) b_name (tw_name (by decide)) (fun wi tt te pi ht he => ps_setLc rfl S.nd rfl rfl (sw_true rfl rfl rfl (by decide +kernel)) pi (blkOk_by (N := N_law_unlike) (sc := defScope s_law_unlike) (by decide +kernel)) (fun _ _ _ _ _ => (pg_name (i := 4) S.nd rfl (by first | exact Or.inl rfl | exact Or.inr rfl))) ht he) (fun _ _ _ _ _ => (pts_one (ST.any (t_nin hr.units (se_var 4) (se_var 0))))) (fun _ _ _ _ _ => (se_var 4)))
    (sss_cons (ss_if (st_truth (q_add (se_var 2) (se_var 3)) (by intro _; rfl)) (sss_one (ss_ret (f_min rfl V.z_min (q_add (se_var 2) (se_var 3))))) sss_nil)
    (sss_one (ss_ret se_non)))))
abbrev N_law_bent : List Str := ["box", "order", "bent", "k", "way", "place", "many", "more"]
theorem sc_law_bent : FnScope ["box", "order", "bent", "k", "way", "place", "many", "more"] ["box", "order"] (defScope s_law_bent) := ⟨rfl, rfl, rfl, by decide +kernel, rfl, by decide +kernel, by decide +kernel⟩
theorem ok_law_bent (V : Env K mg cA ad fdv aI fdI) : FnOk P w K mg base (L2.CX P w) 2 (ad 20) (fdv 20) ["box", "order"] (spF cA K 2 F_law_bent) :=
  fn_def V.d_law_bent.fn sc_law_bent (by decide) fun cdv A outer s H E hr => have S := sc_law_bent
    (sss_cons (ss_own S.nd rfl (by first | exact Or.inl rfl | exact Or.inr rfl) (f_list V.z_list (se_var 1)))
    (sss_cons (ss_for (passes_of rfl) rfl (si_rng1 rfl V.z_range (se_call (ok_law_take V) (hr.mono (by decide)) rfl V.d_law_take.mg V.d_law_take.fn.kp V.d_law_take.bd (sl_cons (se_var 0) (sl_cons se_int sl_nil)) (lCons_len (lCons_len lNil_len)))) (pg_name (i := 3) S.nd rfl (by first | exact Or.inl rfl | exact Or.inr rfl)) b_name (sss_cons (ss_set S.nd rfl (by first | exact Or.inl rfl | exact Or.inr rfl) (se_call (ok_law_take V) (hr.mono (by decide)) rfl V.d_law_take.mg V.d_law_take.fn.kp V.d_law_take.bd (sl_cons (se_var 0) (sl_cons se_int sl_nil)) (lCons_len (lCons_len lNil_len))))
    (sss_cons (ss_set S.nd rfl (by first | exact Or.inl rfl | exact Or.inr rfl) (se_call (ok_law_take V) (hr.mono (by decide)) rfl V.d_law_take.mg V.d_law_take.fn.kp V.d_law_take.bd (sl_cons (se_var 0) (sl_cons (q_add (f_len V.z_len (se_var 2)) se_int) sl_nil)) (lCons_len (lCons_len lNil_len))))
    (sss_cons (ss_if (st_w (stw_and (t_eq hr.units (se_var 4) se_int) (stw_and1 (t_lt (f_len V.z_len (se_var 2)) se_int)))) (sss_one (ss_expr (se_mut (i := 2) sim_insert (fun t ha => pe_bm PySem.F.plainAttrs_list PySem.F.slot_list_insert PySem.F.type_list_insert mt_insert (pv 2) ha) (sl_cons (se_var 5) (sl_cons (q_add se_int (f_len V.z_len (se_var 2))) sl_nil))))) sss_nil)
    (sss_cons (ss_if (st_w (stw_and (t_eq hr.units (se_var 4) se_int) (stw_and1 (t_le (f_len V.z_len (se_var 2)) se_int)))) (sss_cons (ss_set S.nd rfl (by first | exact Or.inl rfl | exact Or.inr rfl) (q_add (q_sub se_int (f_len V.z_len (se_var 2))) (se_call (ok_law_take V) (hr.mono (by decide)) rfl V.d_law_take.mg V.d_law_take.fn.kp V.d_law_take.bd (sl_cons (se_var 0) (sl_cons se_int sl_nil)) (lCons_len (lCons_len lNil_len)))))
    (sss_one (ss_own S.nd rfl (by first | exact Or.inl rfl | exact Or.inr rfl) (q_add (se_var 2) (se_lc (own := [(Str.ofString "more", 7)]) rfl (si_rng1 rfl V.z_range (se_var 6)) b_name (tw_name (by decide)) (fun wi tt te pi ht he => pe_lc rfl S.nd pi (blkOk_by (N := N_law_bent) (sc := defScope s_law_bent) (by decide +kernel)) (fun _ _ _ _ _ => (pg_name (i := 7) S.nd rfl (by first | exact Or.inl rfl | exact Or.inr rfl))) ht he) (fun _ _ _ _ _ => (yes_any pts_nil)) (fun _ _ _ _ _ => (q_add se_int (se_var 7)))))))) sss_nil)
    (sss_cons (ss_if (st_w (stw_and (t_eq hr.units (se_var 4) se_int) (stw_and1 (t_lt (se_var 5) (f_len V.z_len (se_var 2)))))) (sss_one (ss_item (pv 2) (se_var 5) (q_sub (q_neg se_int) (se_call (ok_law_take V) (hr.mono (by decide)) rfl V.d_law_take.mg V.d_law_take.fn.kp V.d_law_take.bd (sl_cons (se_var 0) (sl_cons se_int sl_nil)) (lCons_len (lCons_len lNil_len)))) (fun te ti he hk => ps_asg he (pg_sub (pv 2) hk set_list)))) sss_nil)
    (sss_cons (ss_if (st_w (stw_and (t_eq hr.units (se_var 4) se_int) (stw_and1 (t_lt (se_var 5) (f_len V.z_len (se_var 2)))))) (sss_one (ss_item (pv 2) (se_var 5) (q_add se_int (se_call (ok_law_take V) (hr.mono (by decide)) rfl V.d_law_take.mg V.d_law_take.fn.kp V.d_law_take.bd (sl_cons (se_var 0) (sl_cons se_int sl_nil)) (lCons_len (lCons_len lNil_len)))) (fun te ti he hk => ps_asg he (pg_sub (pv 2) hk set_list)))) sss_nil)
    (sss_cons (ss_if (st_w (stw_and (t_eq hr.units (se_var 4) se_int) (stw_and1 (t_lt (se_var 5) (f_len V.z_len (se_var 2)))))) (sss_one (ss_item (pv 2) (se_var 5) (se_ix (se_lst (sl_cons se_int (sl_cons se_int (sl_cons se_int (sl_cons (q_neg se_int) sl_nil))))) (se_call (ok_law_take V) (hr.mono (by decide)) rfl V.d_law_take.mg V.d_law_take.fn.kp V.d_law_take.bd (sl_cons (se_var 0) (sl_cons se_int sl_nil)) (lCons_len (lCons_len lNil_len))) fun _ _ => rfl) (fun te ti he hk => ps_asg he (pg_sub (pv 2) hk set_list)))) sss_nil)
    (sss_cons (ss_if (st_w (stw_and (t_eq hr.units (se_var 4) se_int) (stw_and1 (t_lt (se_var 5) (f_len V.z_len (se_var 2)))))) (sss_one (ss_item (pv 2) (se_var 5) (se_ix (se_var 2) (se_call (ok_law_take V) (hr.mono (by decide)) rfl V.d_law_take.mg V.d_law_take.fn.kp V.d_law_take.bd (sl_cons (se_var 0) (sl_cons (f_len V.z_len (se_var 2)) sl_nil)) (lCons_len (lCons_len lNil_len))) fun _ _ => rfl) (fun te ti he hk => ps_asg he (pg_sub (pv 2) hk set_list)))) sss_nil)
    (sss_one (ss_if (st_w (stw_and (t_eq hr.units (se_var 4) se_int) (stw_and1 (t_lt (se_var 5) (f_len V.z_len (se_var 2)))))) (sss_one (ss_expr (se_mut (i := 2) sim_popAt (fun t ha => pe_bm PySem.F.plainAttrs_list PySem.F.slot_list_pop PySem.F.type_list_pop mt_popAt (pv 2) ha) (sl_cons (se_var 5) sl_nil)))) sss_nil)))))))))))
    (sss_one (ss_ret (se_var 2)))))
abbrev N_law_exchanged : List Str := ["order", "place", "swapped"]
theorem sc_law_exchanged : FnScope ["order", "place", "swapped"] ["order", "place"] (defScope s_law_exchanged) := ⟨rfl, rfl, rfl, by decide +kernel, rfl, by decide +kernel, by decide +kernel⟩
theorem ok_law_exchanged (V : Env K mg cA ad fdv aI fdI) : FnOk P w K mg base (L2.CX P w) 1 (ad 21) (fdv 21) ["order", "place"] (spF cA K 2 F_law_exchanged) :=
  fn_def V.d_law_exchanged.fn sc_law_exchanged (by decide) fun cdv A outer s H E hr => have S := sc_law_exchanged
    (sss_cons (ss_own S.nd rfl (by first | exact Or.inl rfl | exact Or.inr rfl) (f_list V.z_list (se_var 0)))
    (sss_cons (ss_item (pv 2) (se_var 1) (se_ix (se_var 0) (q_add (se_var 1) se_int) fun _ _ => rfl) (fun te ti he hk => ps_asg he (pg_sub (pv 2) hk set_list)))
    (sss_cons (ss_item (pv 2) (q_add (se_var 1) se_int) (se_ix (se_var 0) (se_var 1) fun _ _ => rfl) (fun te ti he hk => ps_asg he (pg_sub (pv 2) hk set_list)))
    (sss_one (ss_ret (se_var 2))))))
abbrev N_law_second : List Str := ["box", "first", "way", "second", "k"]
theorem sc_law_second : FnScope ["box", "first", "way", "second", "k"] ["box", "first"] (defScope s_law_second) := ⟨rfl, rfl, rfl, by decide +kernel, rfl, by decide +kernel, by decide +kernel⟩
theorem ok_law_second (V : Env K mg cA ad fdv aI fdI) : FnOk P w K mg base (L2.CX P w) 3 (ad 22) (fdv 22) ["box", "first"] (spF cA K 2 F_law_second) :=
  fn_def V.d_law_second.fn sc_law_second (by decide) fun cdv A outer s H E hr => have S := sc_law_second
    (sss_cons (ss_set S.nd rfl (by first | exact Or.inl rfl | exact Or.inr rfl) (se_call (ok_law_take V) (hr.mono (by decide)) rfl V.d_law_take.mg V.d_law_take.fn.kp V.d_law_take.bd (sl_cons (se_var 0) (sl_cons se_int sl_nil)) (lCons_len (lCons_len lNil_len))))
    (sss_cons (ss_if (t_eq hr.units (se_var 2) se_int) (sss_one (ss_ret (se_call (ok_law_order V) (hr.mono (by decide)) rfl V.d_law_order.mg V.d_law_order.fn.kp V.d_law_order.bd (sl_cons (se_var 0) (sl_cons (se_var 1) sl_nil)) (lCons_len (lCons_len lNil_len))))) sss_nil)
    (sss_cons (ss_own S.nd rfl (by first | exact Or.inl rfl | exact Or.inr rfl) (f_list V.z_list (se_var 1)))
    (sss_cons (ss_if (t_eq hr.units (se_var 2) se_int) (sss_one (ss_expr (se_mut0 (i := 3) sim_reverse (pe_bm0 PySem.F.plainAttrs_list PySem.F.slot_list_reverse PySem.F.type_list_reverse mt_reverse (pv 3))))) sss_nil)
    (sss_cons (ss_if (st_w (stw_and (t_eq hr.units (se_var 2) se_int) (stw_and1 (t_gt (f_len V.z_len (se_var 3)) se_int)))) (sss_one (ss_for (passes_of rfl) rfl (si_rng1 rfl V.z_range (se_call (ok_law_take V) (hr.mono (by decide)) rfl V.d_law_take.mg V.d_law_take.fn.kp V.d_law_take.bd (sl_cons (se_var 0) (sl_cons se_int sl_nil)) (lCons_len (lCons_len lNil_len)))) (pg_name (i := 4) S.nd rfl (by first | exact Or.inl rfl | exact Or.inr rfl)) b_name (sss_one (ss_own S.nd rfl (by first | exact Or.inl rfl | exact Or.inr rfl) (se_call (ok_law_exchanged V) (hr.mono (by decide)) rfl V.d_law_exchanged.mg V.d_law_exchanged.fn.kp V.d_law_exchanged.bd (sl_cons (se_var 3) (sl_cons (se_call (ok_law_take V) (hr.mono (by decide)) rfl V.d_law_take.mg V.d_law_take.fn.kp V.d_law_take.bd (sl_cons (se_var 0) (sl_cons (q_sub (f_len V.z_len (se_var 3)) se_int) sl_nil)) (lCons_len (lCons_len lNil_len))) sl_nil)) (lCons_len (lCons_len lNil_len))))))) sss_nil)
    (sss_one (ss_ret (se_var 3))))))))
abbrev N_law_differing : List Str := ["first", "second", "rows", "x", "y"]
theorem sc_law_differing : FnScope ["first", "second", "rows", "x", "y"] ["first", "second"] (defScope s_law_differing) := ⟨rfl, rfl, rfl, by decide +kernel, rfl, by decide +kernel, by decide +kernel⟩
theorem ok_law_differing (V : Env K mg cA ad fdv aI fdI) : FnOk P w K mg base (L2.CX P w) 1 (ad 23) (fdv 23) ["first", "second"] (spF cA K 2 F_law_differing) :=
  fn_def V.d_law_differing.fn sc_law_differing (by decide) fun cdv A outer s H E hr => have S := sc_law_differing
    (sss_cons (ss_own S.nd rfl (by first | exact Or.inl rfl | exact Or.inr rfl) (se_lst sl_nil))
    (sss_cons (ss_for (passes_of rfl) rfl (si_lst (f_sortI V.z_sorted (se_var 0))) (pg_name (i := 3) S.nd rfl (by first | exact Or.inl rfl | exact Or.inr rfl)) b_name (sss_one (ss_for (passes_of rfl) rfl (si_lst (f_sortI V.z_sorted (se_var 0))) (pg_name (i := 4) S.nd rfl (by first | exact Or.inl rfl | exact Or.inr rfl)) b_name (sss_one (ss_if (st_w (stw_and (t_lt (se_methL sim_index (fun to t ho ha => pe_bm PySem.F.plainAttrs_list PySem.F.slot_list_index PySem.F.type_list_index mt_index ho ha) (se_var 0) (sl_cons (se_var 3) sl_nil)) (se_methL sim_index (fun to t ho ha => pe_bm PySem.F.plainAttrs_list PySem.F.slot_list_index PySem.F.type_list_index mt_index ho ha) (se_var 0) (sl_cons (se_var 4) sl_nil))) (stw_and1 (t_lt (se_methL sim_index (fun to t ho ha => pe_bm PySem.F.plainAttrs_list PySem.F.slot_list_index PySem.F.type_list_index mt_index ho ha) (se_var 1) (sl_cons (se_var 4) sl_nil)) (se_methL sim_index (fun to t ho ha => pe_bm PySem.F.plainAttrs_list PySem.F.slot_list_index PySem.F.type_list_index mt_index ho ha) (se_var 1) (sl_cons (se_var 3) sl_nil)))))) (sss_one (ss_expr (se_mut (i := 2) sim_append (fun t ha => pe_bm PySem.F.plainAttrs_list PySem.F.slot_list_append PySem.F.type_list_append mt_append (pv 2) ha) (sl_cons (se_tup (sl_cons (se_var 3) (sl_cons (se_var 4) sl_nil))) sl_nil)))) sss_nil)))))
    (sss_one (ss_ret (se_var 2)))))
abbrev N_law_straight : List Str := ["first", "second", "told", "order", "place", "against", "k"]
theorem sc_law_straight : FnScope ["first", "second", "told", "order", "place", "against", "k"] ["first", "second", "told"] (defScope s_law_straight) := ⟨rfl, rfl, rfl, by decide +kernel, rfl, by decide +kernel, by decide +kernel⟩
theorem ok_law_straight (V : Env K mg cA ad fdv aI fdI) : FnOk P w K mg base (L2.CX P w) 2 (ad 24) (fdv 24) ["first", "second", "told"] (spF cA K 3 F_law_straight) :=
  fn_def V.d_law_straight.fn sc_law_straight (by decide) fun cdv A outer s H E hr => have S := sc_law_straight
    (sss_cons (ss_if (st_w (stw_or (st_not (st_truth (f_isi V.z_isinstance V.z_list PyProof.Rows.boot_list (se_var 2)) (by intro _; rfl))) (stw_or1 (st_not (st_truth (f_all rfl V.z_all (se_lc (own := [(Str.ofString "place", 4)]) rfl (si_lst (se_var 2)) b_name (tw_name (by decide)) (fun wi tt te pi ht he => pe_lc rfl S.nd pi (blkOk_by (N := N_law_straight) (sc := defScope s_law_straight) (by decide +kernel)) (fun _ _ _ _ _ => (pg_name (i := 4) S.nd rfl (by first | exact Or.inl rfl | exact Or.inr rfl))) ht he) (fun _ _ _ _ _ => (yes_any pts_nil)) (fun _ _ _ _ _ => (se_call (ok_law_int V) (hr.mono (by decide)) rfl V.d_law_int.mg V.d_law_int.fn.kp V.d_law_int.bd (sl_cons (se_var 4) sl_nil) (lCons_len lNil_len))))) (by intro _; rfl)))))) (sss_one (ss_ret se_bl)) sss_nil)
    (sss_cons (ss_if (t_ne hr.units (f_len V.z_len (se_var 2)) (f_len V.z_len (se_call (ok_law_differing V) (hr.mono (by decide)) rfl V.d_law_differing.mg V.d_law_differing.fn.kp V.d_law_differing.bd (sl_cons (se_var 0) (sl_cons (se_var 1) sl_nil)) (lCons_len (lCons_len lNil_len))))) (sss_one (ss_ret se_bl)) sss_nil)
    (sss_cons (ss_set S.nd rfl (by first | exact Or.inl rfl | exact Or.inr rfl) (f_list V.z_list (se_var 0)))
    (sss_cons (ss_for (passes_of rfl) rfl (si_lst (se_var 2)) (pg_name (i := 4) S.nd rfl (by first | exact Or.inl rfl | exact Or.inr rfl)) b_name (sss_cons (ss_lc (own := [(Str.ofString "k", 6)]) putV rfl (si_rng1 rfl V.z_range (q_sub (f_len V.z_len (se_var 3)) se_int)) b_name (tw_name (by decide)) (fun wi tt te pi ht he => ps_setLc rfl S.nd rfl rfl (sw_true rfl rfl rfl (by decide +kernel)) pi (blkOk_by (N := N_law_straight) (sc := defScope s_law_straight) (by decide +kernel)) (fun _ _ _ _ _ => (pg_name (i := 6) S.nd rfl (by first | exact Or.inl rfl | exact Or.inr rfl))) ht he) (fun _ _ _ _ _ => (pts_one (ST.any (t_lt (se_methL sim_index (fun to t ho ha => pe_bm PySem.F.plainAttrs_list PySem.F.slot_list_index PySem.F.type_list_index mt_index ho ha) (se_var 1) (sl_cons (se_ix (se_var 3) (q_add (se_var 6) se_int) fun _ _ => rfl) sl_nil)) (se_methL sim_index (fun to t ho ha => pe_bm PySem.F.plainAttrs_list PySem.F.slot_list_index PySem.F.type_list_index mt_index ho ha) (se_var 1) (sl_cons (se_ix (se_var 3) (se_var 6) fun _ _ => rfl) sl_nil)))))) (fun _ _ _ _ _ => (se_var 6)))
    (sss_cons (ss_if (st_w (stw_or (st_not (st_truth (se_var 5) (by intro _; rfl))) (stw_or1 (t_ne hr.units (se_var 4) (se_ix (se_var 5) se_int fun _ _ => rfl))))) (sss_one (ss_ret se_bl)) sss_nil)
    (sss_one (ss_set S.nd rfl (by first | exact Or.inl rfl | exact Or.inr rfl) (se_call (ok_law_exchanged V) (hr.mono (by decide)) rfl V.d_law_exchanged.mg V.d_law_exchanged.fn.kp V.d_law_exchanged.bd (sl_cons (se_var 3) (sl_cons (se_var 4) sl_nil)) (lCons_len (lCons_len lNil_len))))))))
    (sss_one (ss_ret (v_eq hr.units (se_var 3) (se_var 1))))))))
abbrev N_law_ask : List Str := ["way", "first", "second", "index", "raised", "told", "good"]
theorem sc_law_ask : FnScope ["way", "first", "second", "index", "raised", "told", "good"] ["way", "first", "second", "index"] (defScope s_law_ask) := ⟨rfl, rfl, rfl, by decide +kernel, rfl, by decide +kernel, by decide +kernel⟩
theorem ok_law_ask (V : Env K mg cA ad fdv aI fdI) : FnOk P w K mg base (L2.CX P w) 6 (ad 25) (fdv 25) ["way", "first", "second", "index"] (spF cA K 4 F_law_ask) :=
  fn_def V.d_law_ask.fn sc_law_ask (by decide) fun cdv A outer s H E hr => have S := sc_law_ask
    (sss_cons (ss_try rfl rfl S.nd (fun pn xe po => (sss_one (ss_if (t_eq hr.units (se_var 0) se_int) (sss_one (ss_setX S.nd rfl (by first | exact Or.inl rfl | exact Or.inr rfl) (se_call (okcheck_list V) (hr.mono (by decide)) rfl V.dcheck_list.mg V.dcheck_list.fn.kp V.dcheck_list.bd (sl_cons (se_var 1) sl_nil) (lCons_len lNil_len)))) (sss_one (ss_if (t_eq hr.units (se_var 0) se_int) (sss_one (ss_setX S.nd rfl (by first | exact Or.inl rfl | exact Or.inr rfl) (se_call (okswap_at V) (hr.mono (by decide)) rfl V.dswap_at.mg V.dswap_at.fn.kp V.dswap_at.bd (sl_cons (se_var 1) (sl_cons (se_var 3) sl_nil)) (lCons_len (lCons_len lNil_len))))) (sss_one (ss_if (t_eq hr.units (se_var 0) se_int) (sss_one (ss_setX S.nd rfl (by first | exact Or.inl rfl | exact Or.inr rfl) (se_call (okdiffering_pairs V) (hr.mono (by decide)) rfl V.ddiffering_pairs.mg V.ddiffering_pairs.fn.kp V.ddiffering_pairs.bd (sl_cons (se_var 1) (sl_cons (se_var 2) sl_nil)) (lCons_len (lCons_len lNil_len))))) (sss_one (ss_setX S.nd rfl (by first | exact Or.inl rfl | exact Or.inr rfl) (se_call (okstraight_swaps V) (hr.mono (by decide)) rfl V.dstraight_swaps.mg V.dstraight_swaps.fn.kp V.dstraight_swaps.bd (sl_cons (se_var 1) (sl_cons (se_var 2) sl_nil)) (lCons_len (lCons_len lNil_len)))))))))))) (HdsZ.cons ⟨rfl, by decide, .inl V.c1.mg⟩ ⟨rfl, rfl⟩ (by intro q hq; simp only [List.mem_cons, List.not_mem_nil, or_false] at hq; rcases hq with rfl | rfl | rfl <;> first | exact V.e1_1 | exact V.e2_1 | exact V.e3_1) (fun a oe pn hf => (sss_cons (ss_set S.nd rfl (by first | exact Or.inl rfl | exact Or.inr rfl) (se_and (se_isX 4 hf V.xk (by intro q hq; simp only [List.mem_cons, List.not_mem_nil, or_false] at hq; rcases hq with rfl | rfl | rfl <;> first | exact ⟨V.c1.xis, V.k1_0⟩ | exact ⟨V.c2.xis, V.k2_0⟩ | exact ⟨V.c3.xis, V.k3_0⟩) (pe_glob (v := .ref (cA 0)) rfl V.m0 rfl) (fun u h => h) rfl V.z_isinstance PyProof.Rows.boot_isinstance) (se_one (se_isX 4 hf V.xk (by intro q hq; simp only [List.mem_cons, List.not_mem_nil, or_false] at hq; rcases hq with rfl | rfl | rfl <;> first | exact ⟨V.c1.xis, V.k1_ValueError⟩ | exact ⟨V.c2.xis, V.k2_ValueError⟩ | exact ⟨V.c3.xis, V.k3_ValueError⟩) (pe_bltn (v := .ty "ValueError") rfl V.z_ValueError bb_ValueError rfl) (fun u h => h) rfl V.z_isinstance PyProof.Rows.boot_isinstance))))
    (sss_cons (ss_set S.nd rfl (by first | exact Or.inl rfl | exact Or.inr rfl) (se_and (se_var 6) (se_and (se_not (se_isX 4 hf V.xk (by intro q hq; simp only [List.mem_cons, List.not_mem_nil, or_false] at hq; rcases hq with rfl | rfl | rfl <;> first | exact ⟨V.c1.xis, V.k1_2⟩ | exact ⟨V.c2.xis, V.k2_2⟩ | exact ⟨V.c3.xis, V.k3_2⟩) (pe_glob (v := .ref (cA 2)) rfl V.c2.mg rfl) (fun u h => h) rfl V.z_isinstance PyProof.Rows.boot_isinstance)) (se_one (se_not (se_isX 4 hf V.xk (by intro q hq; simp only [List.mem_cons, List.not_mem_nil, or_false] at hq; rcases hq with rfl | rfl | rfl <;> first | exact ⟨V.c1.xis, V.k1_3⟩ | exact ⟨V.c2.xis, V.k2_3⟩ | exact ⟨V.c3.xis, V.k3_3⟩) (pe_glob (v := .ref (cA 3)) rfl V.c3.mg rfl) (fun u h => h) rfl V.z_isinstance PyProof.Rows.boot_isinstance))))))
    (sss_one (ss_ret (se_tup (sl_cons se_str (sl_cons (se_xf 4 hf (by intro c hc; simp only [List.mem_cons, List.not_mem_nil, or_false] at hc; rcases hc with rfl <;> first | exact V.c1.xf) (by intro c hc; simp only [List.mem_cons, List.not_mem_nil, or_false] at hc; rcases hc with rfl <;> first | exact V.c1.noF)) (sl_cons (se_var 6) sl_nil))))))))) (HdsZ.cons ⟨rfl, by decide, .inl V.c2.mg⟩ ⟨rfl, rfl⟩ (by intro q hq; simp only [List.mem_cons, List.not_mem_nil, or_false] at hq; rcases hq with rfl | rfl | rfl <;> first | exact V.e1_2 | exact V.e2_2 | exact V.e3_2) (fun a oe pn hf => (sss_cons (ss_set S.nd rfl (by first | exact Or.inl rfl | exact Or.inr rfl) (se_and (se_isX 4 hf V.xk (by intro q hq; simp only [List.mem_cons, List.not_mem_nil, or_false] at hq; rcases hq with rfl | rfl | rfl <;> first | exact ⟨V.c1.xis, V.k1_0⟩ | exact ⟨V.c2.xis, V.k2_0⟩ | exact ⟨V.c3.xis, V.k3_0⟩) (pe_glob (v := .ref (cA 0)) rfl V.m0 rfl) (fun u h => h) rfl V.z_isinstance PyProof.Rows.boot_isinstance) (se_one (se_isX 4 hf V.xk (by intro q hq; simp only [List.mem_cons, List.not_mem_nil, or_false] at hq; rcases hq with rfl | rfl | rfl <;> first | exact ⟨V.c1.xis, V.k1_ValueError⟩ | exact ⟨V.c2.xis, V.k2_ValueError⟩ | exact ⟨V.c3.xis, V.k3_ValueError⟩) (pe_bltn (v := .ty "ValueError") rfl V.z_ValueError bb_ValueError rfl) (fun u h => h) rfl V.z_isinstance PyProof.Rows.boot_isinstance))))
    (sss_one (ss_ret (se_tup (sl_cons se_str (sl_cons (se_xf 4 hf (by intro c hc; simp only [List.mem_cons, List.not_mem_nil, or_false] at hc; rcases hc with rfl <;> first | exact V.c2.xf) (by intro c hc; simp only [List.mem_cons, List.not_mem_nil, or_false] at hc; rcases hc with rfl <;> first | exact V.c2.noF)) (sl_cons (se_and (se_var 6) (se_one (se_not (se_isX 4 hf V.xk (by intro q hq; simp only [List.mem_cons, List.not_mem_nil, or_false] at hq; rcases hq with rfl | rfl | rfl <;> first | exact ⟨V.c1.xis, V.k1_3⟩ | exact ⟨V.c2.xis, V.k2_3⟩ | exact ⟨V.c3.xis, V.k3_3⟩) (pe_glob (v := .ref (cA 3)) rfl V.c3.mg rfl) (fun u h => h) rfl V.z_isinstance PyProof.Rows.boot_isinstance)))) sl_nil)))))))) (HdsZ.cons ⟨rfl, by decide, .inl V.c3.mg⟩ ⟨rfl, rfl⟩ (by intro q hq; simp only [List.mem_cons, List.not_mem_nil, or_false] at hq; rcases hq with rfl | rfl | rfl <;> first | exact V.e1_3 | exact V.e2_3 | exact V.e3_3) (fun a oe pn hf => (sss_one (ss_ret (se_tup (sl_cons se_str (sl_cons (se_xf 4 hf (by intro c hc; simp only [List.mem_cons, List.not_mem_nil, or_false] at hc; rcases hc with rfl <;> first | exact V.c3.xf) (by intro c hc; simp only [List.mem_cons, List.not_mem_nil, or_false] at hc; rcases hc with rfl <;> first | exact V.c3.noF)) (sl_cons (se_and (se_isX 4 hf V.xk (by intro q hq; simp only [List.mem_cons, List.not_mem_nil, or_false] at hq; rcases hq with rfl | rfl | rfl <;> first | exact ⟨V.c1.xis, V.k1_0⟩ | exact ⟨V.c2.xis, V.k2_0⟩ | exact ⟨V.c3.xis, V.k3_0⟩) (pe_glob (v := .ref (cA 0)) rfl V.m0 rfl) (fun u h => h) rfl V.z_isinstance PyProof.Rows.boot_isinstance) (se_one (se_isX 4 hf V.xk (by intro q hq; simp only [List.mem_cons, List.not_mem_nil, or_false] at hq; rcases hq with rfl | rfl | rfl <;> first | exact ⟨V.c1.xis, V.k1_ValueError⟩ | exact ⟨V.c2.xis, V.k2_ValueError⟩ | exact ⟨V.c3.xis, V.k3_ValueError⟩) (pe_bltn (v := .ty "ValueError") rfl V.z_ValueError bb_ValueError rfl) (fun u h => h) rfl V.z_isinstance PyProof.Rows.boot_isinstance))) sl_nil))))))) HdsZ.nil))))
    (sss_one (ss_retM (sl_cons se_str (sl_cons (se_var 5) (sl_cons se_bl sl_nil))))))
abbrev N_law_due : List Str := ["way", "first", "second", "index", "place", "key"]
theorem sc_law_due : FnScope ["way", "first", "second", "index", "place", "key"] ["way", "first", "second", "index"] (defScope s_law_due) := ⟨rfl, rfl, rfl, by decide +kernel, rfl, by decide +kernel, by decide +kernel⟩
theorem ok_law_due (V : Env K mg cA ad fdv aI fdI) : FnOk P w K mg base (L2.CX P w) 2 (ad 26) (fdv 26) ["way", "first", "second", "index"] (spF cA K 4 F_law_due) :=
  fn_def V.d_law_due.fn sc_law_due (by decide) fun cdv A outer s H E hr => have S := sc_law_due
    (sss_cons (ss_set S.nd rfl (by first | exact Or.inl rfl | exact Or.inr rfl) (se_call (ok_law_wrong V) (hr.mono (by decide)) rfl V.d_law_wrong.mg V.d_law_wrong.fn.kp V.d_law_wrong.bd (sl_cons (se_var 1) sl_nil) (lCons_len lNil_len)))
    (sss_cons (ss_if (t_notN (se_var 4) se_non) (sss_one (ss_ret (se_tup (sl_cons se_str (sl_cons (se_var 4) sl_nil))))) sss_nil)
    (sss_cons (ss_if (st_w (stw_and (t_eq hr.units (se_var 0) se_int) (stw_and1 (st_w (stw_or (t_lt (se_var 3) se_int) (stw_or1 (t_gt (se_var 3) (q_sub (f_len V.z_len (se_var 1)) se_int)))))))) (sss_one (ss_ret (se_tup (sl_cons se_str (sl_cons se_int sl_nil))))) sss_nil)
    (sss_cons (ss_if (t_lt (se_var 0) se_int) (sss_one (ss_ret (se_tup (sl_cons se_str (sl_cons se_int sl_nil))))) sss_nil)
    (sss_cons (ss_set S.nd rfl (by first | exact Or.inl rfl | exact Or.inr rfl) (se_call (ok_law_wrong V) (hr.mono (by decide)) rfl V.d_law_wrong.mg V.d_law_wrong.fn.kp V.d_law_wrong.bd (sl_cons (se_var 2) sl_nil) (lCons_len lNil_len)))
    (sss_cons (ss_if (t_notN (se_var 4) se_non) (sss_one (ss_ret (se_tup (sl_cons se_str (sl_cons (se_var 4) sl_nil))))) sss_nil)
    (sss_cons (ss_set S.nd rfl (by first | exact Or.inl rfl | exact Or.inr rfl) (se_call (ok_law_unlike V) (hr.mono (by decide)) rfl V.d_law_unlike.mg V.d_law_unlike.fn.kp V.d_law_unlike.bd (sl_cons (se_var 1) (sl_cons (se_var 2) sl_nil)) (lCons_len (lCons_len lNil_len))))
    (sss_cons (ss_if (t_notN (se_var 5) se_non) (sss_one (ss_ret (se_tup (sl_cons se_str (sl_cons (se_var 5) sl_nil))))) sss_nil)
    (sss_one (ss_ret (se_tup (sl_cons se_str (sl_cons se_int sl_nil)))))))))))))
abbrev N_law_asked : List Str := ["way", "first", "second", "index", "handed", "got", "due", "swapped"]
theorem sc_law_asked : FnScope ["way", "first", "second", "index", "handed", "got", "due", "swapped"] ["way", "first", "second", "index"] (defScope s_law_asked) := ⟨rfl, rfl, rfl, by decide +kernel, rfl, by decide +kernel, by decide +kernel⟩
theorem ok_law_asked (V : Env K mg cA ad fdv aI fdI) : FnOk P w K mg base (L2.CX P w) 7 (ad 27) (fdv 27) ["way", "first", "second", "index"] (spF cA K 4 F_law_asked) :=
  fn_def V.d_law_asked.fn sc_law_asked (by decide) fun cdv A outer s H E hr => have S := sc_law_asked
    (sss_cons (ss_set S.nd rfl (by first | exact Or.inl rfl | exact Or.inr rfl) (se_lst (sl_cons (f_list V.z_list (se_var 1)) (sl_cons (f_list V.z_list (se_var 2)) sl_nil))))
    (sss_cons (ss_setX S.nd rfl (by first | exact Or.inl rfl | exact Or.inr rfl) (se_call (ok_law_ask V) (hr.mono (by decide)) rfl V.d_law_ask.mg V.d_law_ask.fn.kp V.d_law_ask.bd (sl_cons (se_var 0) (sl_cons (se_ix (se_var 4) se_int fun _ _ => rfl) (sl_cons (se_ix (se_var 4) se_int fun _ _ => rfl) (sl_cons (se_var 3) sl_nil)))) (lCons_len (lCons_len (lCons_len (lCons_len lNil_len))))))
    (sss_cons (ss_set S.nd rfl (by first | exact Or.inl rfl | exact Or.inr rfl) (se_call (ok_law_due V) (hr.mono (by decide)) rfl V.d_law_due.mg V.d_law_due.fn.kp V.d_law_due.bd (sl_cons (se_var 0) (sl_cons (se_var 1) (sl_cons (se_var 2) (sl_cons (se_var 3) sl_nil)))) (lCons_len (lCons_len (lCons_len (lCons_len lNil_len))))))
    (sss_cons (ss_if (st_w (stw_or (t_ne hr.units (se_kid 5 0 (pv 5) fun _ _ => rfl) (se_ix (se_var 6) se_int fun _ _ => rfl)) (stw_or (st_not (st_truth (se_kid 5 2 (pv 5) fun _ _ => rfl) (by intro _; rfl))) (stw_or (t_ne hr.units (se_ix (se_var 4) se_int fun _ _ => rfl) (se_var 1)) (stw_or1 (t_ne hr.units (se_ix (se_var 4) se_int fun _ _ => rfl) (se_var 2))))))) (sss_one (ss_ret se_bl)) sss_nil)
    (sss_cons (ss_if (t_ne hr.units (se_ix (se_var 6) se_int fun _ _ => rfl) se_str) (sss_one (ss_ret (se_and (se_call (ok_law_int V) (hr.mono (by decide)) rfl V.d_law_int.mg V.d_law_int.fn.kp V.d_law_int.bd (sl_cons (se_kid 5 1 (pv 5) fun _ _ => rfl) sl_nil) (lCons_len lNil_len)) (se_one (v_eq hr.units (se_kid 5 1 (pv 5) fun _ _ => rfl) (se_ix (se_var 6) se_int fun _ _ => rfl)))))) sss_nil)
    (sss_cons (ss_if (t_eq hr.units (se_var 0) se_int) (sss_one (ss_ret (v_isN (se_kid 5 1 (pv 5) fun _ _ => rfl) se_non))) sss_nil)
    (sss_cons (ss_if (t_eq hr.units (se_var 0) se_int) (sss_cons (ss_if (st_not (st_truth (se_call (ok_law_ints V) (hr.mono (by decide)) rfl V.d_law_ints.mg V.d_law_ints.fn.kp V.d_law_ints.bd (sl_cons (se_kid 5 1 (pv 5) fun _ _ => rfl) (sl_cons (se_call (ok_law_exchanged V) (hr.mono (by decide)) rfl V.d_law_exchanged.mg V.d_law_exchanged.fn.kp V.d_law_exchanged.bd (sl_cons (se_var 1) (sl_cons (se_var 3) sl_nil)) (lCons_len (lCons_len lNil_len))) sl_nil)) (lCons_len (lCons_len lNil_len))) (by intro _; rfl))) (sss_one (ss_ret se_bl)) sss_nil)
    (sss_cons (ss_setX S.nd rfl (by first | exact Or.inl rfl | exact Or.inr rfl) (se_kid 5 1 (pv 5) fun _ _ => rfl))
    (sss_cons (ss_expr (se_mutP sim_append (se_var 7) (fun to t ho ha => pe_bm PySem.F.plainAttrs_list PySem.F.slot_list_append PySem.F.type_list_append mt_append ho ha) (sl_cons se_int sl_nil)))
    (sss_one (ss_ret (v_eq hr.units (se_ix (se_var 4) se_int fun _ _ => rfl) (se_var 1))))))) sss_nil)
    (sss_cons (ss_if (t_eq hr.units (se_var 0) se_int) (sss_one (ss_ret (se_call (ok_law_tuples V) (hr.mono (by decide)) rfl V.d_law_tuples.mg V.d_law_tuples.fn.kp V.d_law_tuples.bd (sl_cons (se_kid 5 1 (pv 5) fun _ _ => rfl) (sl_cons (se_call (ok_law_differing V) (hr.mono (by decide)) rfl V.d_law_differing.mg V.d_law_differing.fn.kp V.d_law_differing.bd (sl_cons (se_var 1) (sl_cons (se_var 2) sl_nil)) (lCons_len (lCons_len lNil_len))) sl_nil)) (lCons_len (lCons_len lNil_len))))) sss_nil)
    (sss_one (ss_ret (se_call (ok_law_straight V) (hr.mono (by decide)) rfl V.d_law_straight.mg V.d_law_straight.fn.kp V.d_law_straight.bd (sl_cons (se_var 1) (sl_cons (se_var 2) (sl_cons (se_kid 5 1 (pv 5) fun _ _ => rfl) sl_nil))) (lCons_len (lCons_len (lCons_len lNil_len))))))))))))))
abbrev Nlaw : List Str := ["script", "box", "count", "first", "second", "near", "far", "index", "way", "place"]
theorem sclaw : FnScope ["script", "box", "count", "first", "second", "near", "far", "index", "way", "place"] ["script"] (defScope slaw) := ⟨rfl, rfl, rfl, by decide +kernel, rfl, by decide +kernel, by decide +kernel⟩
theorem oklaw (V : Env K mg cA ad fdv aI fdI) : FnOk P w K mg base (L2.CX P w) 8 (ad 28) (fdv 28) ["script"] (spF cA K 1 Flaw) :=
  fn_def V.dlaw.fn sclaw (by decide) fun cdv A outer s H E hr => have S := sclaw
    (sss_cons (ss_own S.nd rfl (by first | exact Or.inl rfl | exact Or.inr rfl) (se_call (ok_law_box V) (hr.mono (by decide)) rfl V.d_law_box.mg V.d_law_box.fn.kp V.d_law_box.bd (sl_cons (se_var 0) sl_nil) (lCons_len lNil_len)))
    (sss_cons (ss_set S.nd rfl (by first | exact Or.inl rfl | exact Or.inr rfl) (se_call (ok_law_take V) (hr.mono (by decide)) rfl V.d_law_take.mg V.d_law_take.fn.kp V.d_law_take.bd (sl_cons (se_var 1) (sl_cons se_int sl_nil)) (lCons_len (lCons_len lNil_len))))
    (sss_cons (ss_if (t_eq hr.units (se_call (ok_law_take V) (hr.mono (by decide)) rfl V.d_law_take.mg V.d_law_take.fn.kp V.d_law_take.bd (sl_cons (se_var 1) (sl_cons se_int sl_nil)) (lCons_len (lCons_len lNil_len))) se_int) (sss_one (ss_set S.nd rfl (by first | exact Or.inl rfl | exact Or.inr rfl) (se_call (ok_law_take V) (hr.mono (by decide)) rfl V.d_law_take.mg V.d_law_take.fn.kp V.d_law_take.bd (sl_cons (se_var 1) (sl_cons se_int sl_nil)) (lCons_len (lCons_len lNil_len))))) sss_nil)
    (sss_cons (ss_set S.nd rfl (by first | exact Or.inl rfl | exact Or.inr rfl) (se_call (ok_law_widened V) (hr.mono (by decide)) rfl V.d_law_widened.mg V.d_law_widened.fn.kp V.d_law_widened.bd (sl_cons (se_var 1) (sl_cons (se_call (ok_law_keys V) (hr.mono (by decide)) rfl V.d_law_keys.mg V.d_law_keys.fn.kp V.d_law_keys.bd (sl_cons (se_var 1) (sl_cons (se_var 2) sl_nil)) (lCons_len (lCons_len lNil_len))) sl_nil)) (lCons_len (lCons_len lNil_len))))
    (sss_cons (ss_set S.nd rfl (by first | exact Or.inl rfl | exact Or.inr rfl) (se_call (ok_law_second V) (hr.mono (by decide)) rfl V.d_law_second.mg V.d_law_second.fn.kp V.d_law_second.bd (sl_cons (se_var 1) (sl_cons (se_var 3) sl_nil)) (lCons_len (lCons_len lNil_len))))
    (sss_cons (ss_set S.nd rfl (by first | exact Or.inl rfl | exact Or.inr rfl) (se_call (ok_law_bent V) (hr.mono (by decide)) rfl V.d_law_bent.mg V.d_law_bent.fn.kp V.d_law_bent.bd (sl_cons (se_var 1) (sl_cons (se_var 3) sl_nil)) (lCons_len (lCons_len lNil_len))))
    (sss_cons (ss_set S.nd rfl (by first | exact Or.inl rfl | exact Or.inr rfl) (se_call (ok_law_bent V) (hr.mono (by decide)) rfl V.d_law_bent.mg V.d_law_bent.fn.kp V.d_law_bent.bd (sl_cons (se_var 1) (sl_cons (se_var 4) sl_nil)) (lCons_len (lCons_len lNil_len))))
    (sss_cons (ss_set S.nd rfl (by first | exact Or.inl rfl | exact Or.inr rfl) (q_sub (se_call (ok_law_take V) (hr.mono (by decide)) rfl V.d_law_take.mg V.d_law_take.fn.kp V.d_law_take.bd (sl_cons (se_var 1) (sl_cons se_int sl_nil)) (lCons_len (lCons_len lNil_len))) se_int))
    (sss_cons (ss_for (passes_of rfl) rfl (si_rng1 rfl V.z_range se_int) (pg_name (i := 8) S.nd rfl (by first | exact Or.inl rfl | exact Or.inr rfl)) b_name (sss_cons (ss_if (st_w (stw_or (st_not (st_truth (se_call (ok_law_asked V) (hr.mono (by decide)) rfl V.d_law_asked.mg V.d_law_asked.fn.kp V.d_law_asked.bd (sl_cons (se_var 8) (sl_cons (se_var 3) (sl_cons (se_var 4) (sl_cons (se_var 7) sl_nil)))) (lCons_len (lCons_len (lCons_len (lCons_len lNil_len))))) (by intro _; rfl))) (stw_or1 (st_not (st_truth (se_call (ok_law_asked V) (hr.mono (by decide)) rfl V.d_law_asked.mg V.d_law_asked.fn.kp V.d_law_asked.bd (sl_cons (se_var 8) (sl_cons (se_var 4) (sl_cons (se_var 3) (sl_cons (se_var 7) sl_nil)))) (lCons_len (lCons_len (lCons_len (lCons_len lNil_len))))) (by intro _; rfl)))))) (sss_one (ss_ret se_bl)) sss_nil)
    (sss_cons (ss_if (st_w (stw_or (st_not (st_truth (se_call (ok_law_asked V) (hr.mono (by decide)) rfl V.d_law_asked.mg V.d_law_asked.fn.kp V.d_law_asked.bd (sl_cons (se_var 8) (sl_cons (se_var 5) (sl_cons (se_var 4) (sl_cons (se_var 7) sl_nil)))) (lCons_len (lCons_len (lCons_len (lCons_len lNil_len))))) (by intro _; rfl))) (stw_or1 (st_not (st_truth (se_call (ok_law_asked V) (hr.mono (by decide)) rfl V.d_law_asked.mg V.d_law_asked.fn.kp V.d_law_asked.bd (sl_cons (se_var 8) (sl_cons (se_var 3) (sl_cons (se_var 6) (sl_cons (se_var 7) sl_nil)))) (lCons_len (lCons_len (lCons_len (lCons_len lNil_len))))) (by intro _; rfl)))))) (sss_one (ss_ret se_bl)) sss_nil)
    (sss_one (ss_if (st_w (stw_or (st_not (st_truth (se_call (ok_law_asked V) (hr.mono (by decide)) rfl V.d_law_asked.mg V.d_law_asked.fn.kp V.d_law_asked.bd (sl_cons (se_var 8) (sl_cons (se_var 5) (sl_cons (se_var 6) (sl_cons (se_var 7) sl_nil)))) (lCons_len (lCons_len (lCons_len (lCons_len lNil_len))))) (by intro _; rfl))) (stw_or1 (st_not (st_truth (se_call (ok_law_asked V) (hr.mono (by decide)) rfl V.d_law_asked.mg V.d_law_asked.fn.kp V.d_law_asked.bd (sl_cons (se_var 8) (sl_cons (se_var 6) (sl_cons (se_var 5) (sl_cons (se_var 7) sl_nil)))) (lCons_len (lCons_len (lCons_len (lCons_len lNil_len))))) (by intro _; rfl)))))) (sss_one (ss_ret se_bl)) sss_nil)))))
    (sss_cons (ss_for (passes_of rfl) rfl (si_rng1 rfl V.z_range (q_add (se_var 2) se_int)) (pg_name (i := 9) S.nd rfl (by first | exact Or.inl rfl | exact Or.inr rfl)) b_name (sss_one (ss_if (st_not (st_truth (se_call (ok_law_asked V) (hr.mono (by decide)) rfl V.d_law_asked.mg V.d_law_asked.fn.kp V.d_law_asked.bd (sl_cons se_int (sl_cons (se_var 3) (sl_cons (se_var 4) (sl_cons (q_sub (se_var 9) se_int) sl_nil)))) (lCons_len (lCons_len (lCons_len (lCons_len lNil_len))))) (by intro _; rfl))) (sss_one (ss_ret se_bl)) sss_nil)))
    (sss_one (ss_ret (se_and (se_call (ok_law_asked V) (hr.mono (by decide)) rfl V.d_law_asked.mg V.d_law_asked.fn.kp V.d_law_asked.bd (sl_cons se_int (sl_cons (se_var 3) (sl_cons (se_var 3) (sl_cons se_int sl_nil)))) (lCons_len (lCons_len (lCons_len (lCons_len lNil_len))))) (se_one (se_call (ok_law_asked V) (hr.mono (by decide)) rfl V.d_law_asked.mg V.d_law_asked.fn.kp V.d_law_asked.bd (sl_cons se_int (sl_cons (se_var 4) (sl_cons (se_var 4) (sl_cons se_int sl_nil)))) (lCons_len (lCons_len (lCons_len (lCons_len lNil_len)))))))))))))))))))
end
end Zk06
end
section
set_option linter.all false
set_option maxRecDepth 10000
namespace Zk06
open PySem PySem.Spec PyProof.Rows L2 Za
/-- a box: three fields, the last two not below zero -/
def Box (cs : List Int) (b : D) : Prop := ∃ r t : Int, 0 ≤ r ∧ 0 ≤ t ∧ b = .lst [.lst (cs.map D.int), .int r, .int t]
theorem fmod_in (a : Int) {n : Int} (h : 0 < n) : 0 ≤ a.fmod n ∧ a.fmod n < n := ⟨Int.fmod_nonneg_of_pos _ h, Int.fmod_lt_of_pos _ h⟩
theorem box_eq (ns : List Int) (h : ns.length ≤ 63) : F_law_box [.v (.kst (ns.map D.int))] = .ok (.lst [.lst (ns.map D.int), .int 0, .int 0]) true [] := by
  have e : Za.cutD (ns.map D.int) none (some 63) = ns.map D.int := by
    unfold Za.cutD
    rw [show (some (63 : Int)) = some ((63 : Nat) : Int) from rfl, HT.sIx_nat, HT.sIx_none]
    simp [Nat.min_eq_left, h, List.take_of_length_le]
  simp [F_law_box, m_law_box, eSl, small, eMut, isLst, fnM, fin, outsOf, argS, sRet, sRetN, sSeq, sSet, sOwn, sStore, setV, setO, sItem, itemK, sExpr, sIf, sSkip, eOp2, op2, oIx, oGt, oLt, oGe, oLe, oDiv, oMod, oMul, oAdd, oSub, oPow, o2I, o2C, eLst, eTup, lCons, lNil, eFn, eVar, eC, Za.eV, eB, frz, cont, conts, vals, Za.tB, Za.tTr, truth, isMut, putMut, storable, setAt, mineD, mutD, reD, retR, bName, bTup, bAll, ePart, oSl, partD, fInt, fLen, fList, e, most]
theorem ints_at (cs : List Int) (i : Int) (h : 0 ≤ i) (h2 : i < cs.length) : ∃ x, atI (cs.map D.int) i = some (.int x) := by
  obtain ⟨j, rfl⟩ := Int.eq_ofNat_of_zero_le h
  have hj : j < cs.length := by omega
  exact ⟨cs[j], by simp [atI, ixN, hj]⟩
theorem sm_l (a : Int) : (-18446744073709551616 < a.fmod 2147483647) = True := by have := (fmod_in a (n := 2147483647) (by omega)); simp; omega
theorem sm_r (a : Int) : (a.fmod 2147483647 < 18446744073709551616) = True := by have := (fmod_in a (n := 2147483647) (by omega)); simp; omega
theorem abs_eq (x : Int) : fAbs [.int x] = some (.val (.int (x.natAbs : Int))) := by
  simp [fAbs]
  split <;> omega
theorem take_eq (cs : List Int) (r t n : Int) (hr : 0 ≤ r) (ht : 0 ≤ t) (hn : 0 < n ∧ n < 2 ^ 20) :
    ∃ v r' t' : Int, 0 ≤ v ∧ v < n ∧ 0 ≤ r' ∧ 0 ≤ t' ∧ F_law_take [.io (.lst [.lst (cs.map D.int), .int r, .int t]), .v (.int n)] = .ok (.int v) false [.lst [.lst (cs.map D.int), .int r', .int t']] := by
  have hn1 : n ≠ 0 := by omega
  have hn2 : n.natAbs < 1073741824 := by omega
  have at1 (x y z : D) : atI [x, y, z] 1 = some y := rfl
  have at2 (x y z : D) : atI [x, y, z] 2 = some z := rfl
  have at0 (x y z : D) : atI [x, y, z] 0 = some x := rfl
  have ix1 : ixN 3 1 = some 1 := rfl
  have ix2 : ixN 3 2 = some 2 := rfl
  have fin' (h : ¬ 0 < r) (hs : ∃ a : Int, F_law_take [.io (.lst [.lst (cs.map D.int), .int r, .int t]), .v (.int n)] = .ok (.int (a.fmod n)) false [.lst [.lst (cs.map D.int), .int r, .int (t + 1)]]) : ∃ v r' t' : Int, 0 ≤ v ∧ v < n ∧ 0 ≤ r' ∧ 0 ≤ t' ∧ F_law_take [.io (.lst [.lst (cs.map D.int), .int r, .int t]), .v (.int n)] = .ok (.int v) false [.lst [.lst (cs.map D.int), .int r', .int t']] := by
    obtain ⟨a, ha⟩ := hs
    exact ⟨_, r, t + 1, (fmod_in a hn.1).1, (fmod_in a hn.1).2, hr, by omega, ha⟩
  by_cases h : 0 < r
  · refine ⟨r.fmod n, r.fdiv n, t, (fmod_in _ hn.1).1, (fmod_in _ hn.1).2, Int.fdiv_nonneg hr (by omega), ht, ?_⟩
    simp [F_law_take, m_law_take, eSl, small, eMut, isLst, fnM, fin, outsOf, argS, sRet, sRetN, sSeq, sSet, sOwn, sStore, setV, setO, sItem, itemK, sExpr, sIf, sSkip, eOp2, op2, oIx, oGt, oLt, oGe, oLe, oDiv, oMod, oMul, oAdd, oSub, oPow, o2I, o2C, eLst, eTup, lCons, lNil, eFn, eVar, eC, Za.eV, eB, frz, cont, conts, vals, Za.tB, Za.tTr, truth, isMut, putMut, storable, setAt, mineD, mutD, reD, retR, bName, bTup, bAll, ePart, oSl, partD, fInt, fLen, fList, h, hn1, hn2, at1, ix1]
  · by_cases hc : t + 1 ≤ cs.length
    · obtain ⟨x, hx⟩ := ints_at cs t ht (by omega)
      by_cases hb : (1000000000000000000 : Int) ≤ x.natAbs
      · refine ⟨(x.natAbs : Int).fmod n, (x.natAbs : Int).fdiv n, t + 1, (fmod_in _ hn.1).1, (fmod_in _ hn.1).2, Int.fdiv_nonneg (by omega) (by omega), by omega, ?_⟩
        simp [F_law_take, m_law_take, eSl, small, eMut, isLst, fnM, fin, outsOf, argS, sRet, sRetN, sSeq, sSet, sOwn, sStore, setV, setO, sItem, itemK, sExpr, sIf, sSkip, eOp2, op2, oIx, oGt, oLt, oGe, oLe, oDiv, oMod, oMul, oAdd, oSub, oPow, o2I, o2C, eLst, eTup, lCons, lNil, eFn, eVar, eC, Za.eV, eB, frz, cont, conts, vals, Za.tB, Za.tTr, truth, isMut, putMut, storable, setAt, mineD, mutD, reD, retR, bName, bTup, bAll, ePart, oSl, partD, fInt, fLen, fList, h, hn1, hn2, at1, at2, at0, ix1, ix2, hc, hx, hb, abs_eq, sm_l, sm_r]
      · refine fin' h ?_
        apply Exists.intro
        simp [F_law_take, m_law_take, eSl, small, eMut, isLst, fnM, fin, outsOf, argS, sRet, sRetN, sSeq, sSet, sOwn, sStore, setV, setO, sItem, itemK, sExpr, sIf, sSkip, eOp2, op2, oIx, oGt, oLt, oGe, oLe, oDiv, oMod, oMul, oAdd, oSub, oPow, o2I, o2C, eLst, eTup, lCons, lNil, eFn, eVar, eC, Za.eV, eB, frz, cont, conts, vals, Za.tB, Za.tTr, truth, isMut, putMut, storable, setAt, mineD, mutD, reD, retR, bName, bTup, bAll, ePart, oSl, partD, fInt, fLen, fList, h, hn1, hn2, at1, at2, at0, ix1, ix2, hc, hx, hb, abs_eq, sm_l, sm_r]
        rfl
    · by_cases hz : cs = []
      · subst hz
        refine fin' h ?_
        apply Exists.intro
        simp [F_law_take, m_law_take, eSl, small, eMut, isLst, fnM, fin, outsOf, argS, sRet, sRetN, sSeq, sSet, sOwn, sStore, setV, setO, sItem, itemK, sExpr, sIf, sSkip, eOp2, op2, oIx, oGt, oLt, oGe, oLe, oDiv, oMod, oMul, oAdd, oSub, oPow, o2I, o2C, eLst, eTup, lCons, lNil, eFn, eVar, eC, Za.eV, eB, frz, cont, conts, vals, Za.tB, Za.tTr, truth, isMut, putMut, storable, setAt, mineD, mutD, reD, retR, bName, bTup, bAll, ePart, oSl, partD, fInt, fLen, fList, h, hn1, hn2, at1, at2, at0, ix1, ix2, hc, show ¬ (t + 1 ≤ 0) by omega, sm_l, sm_r]
        rfl
      · have hl : 0 < (cs.length : Int) := by have := List.length_pos_iff.mpr hz; omega
        obtain ⟨x, hx⟩ := ints_at cs ((t + 1).fmod cs.length) (fmod_in _ hl).1 (fmod_in _ hl).2
        have hz' : cs.isEmpty = false := by cases cs <;> simp_all
        refine fin' h ?_
        apply Exists.intro
        simp [F_law_take, m_law_take, eSl, small, eMut, isLst, fnM, fin, outsOf, argS, sRet, sRetN, sSeq, sSet, sOwn, sStore, setV, setO, sItem, itemK, sExpr, sIf, sSkip, eOp2, op2, oIx, oGt, oLt, oGe, oLe, oDiv, oMod, oMul, oAdd, oSub, oPow, o2I, o2C, eLst, eTup, lCons, lNil, eFn, eVar, eC, Za.eV, eB, frz, cont, conts, vals, Za.tB, Za.tTr, truth, isMut, putMut, storable, setAt, mineD, mutD, reD, retR, bName, bTup, bAll, ePart, oSl, partD, fInt, fLen, fList, h, hn1, hn2, at1, at2, at0, ix1, ix2, hc, hx, hz, hz', abs_eq, sm_l, sm_r]
        rfl
theorem take_in {cs : List Int} {b : D} {n : Int} (hb : Box cs b) (hn : 0 < n ∧ n < 2 ^ 20) : ∃ (v : Int) (b' : D), Box cs b' ∧ 0 ≤ v ∧ v < n ∧ F_law_take [.io b, .v (.int n)] = .ok (.int v) false [b'] := by
  obtain ⟨r, t, hr, ht, rfl⟩ := hb
  obtain ⟨v, r', t', h1, h2, h3, h4, e⟩ := take_eq cs r t n hr ht hn
  exact ⟨v, _, ⟨r', t', h3, h4, rfl⟩, h1, h2, e⟩
end Zk06
end
section
set_option linter.all false
set_option maxRecDepth 10000
namespace Zk06
open PySem PySem.Spec PyProof.Rows L2 Za
/-- a call of take at the slot i of the box -/
theorem take_call {cs : List Int} {sl : List Slot} {i : Nat} {s : Slot} {b : D} {n : Int} {m : EM} (hs : sl[i]? = some s) (hm : mutD s = some b) (hb : Box cs b) (he : Za.eV m sl = .ok (.v (.int n)) sl) (hn : 0 < n ∧ n < 2 ^ 20) (hv : Za.eV (eVar i) sl = .ok (.s i) sl) :
    ∃ (v : Int) (b' : D), Box cs b' ∧ 0 ≤ v ∧ v < n ∧ eCall F_law_take [true, false] (lCons (eVar i) (lCons m lNil)) sl = .ok (.v (.int v)) (sl.set i (reD s b')) := by
  obtain ⟨v, b', h1, h2, h3, e⟩ := take_in hb hn
  refine ⟨v, b', h1, h2, h3, ?_⟩
  simp [eCall, lCons, lNil, hv, he, mkArgs, hs, hm, e, callR, wb, okRet]
theorem le_most {n : Nat} (h : n ≤ 1000) : n ≤ most := Nat.le_trans h (by decide)
theorem le0 : ((0 : Nat) ≤ most) = True := by simp
theorem append_eq (xs : List Int) (y : Int) (h : xs.length ≤ 1000) : uAppend (.lst (xs.map D.int)) [.int y] = some (.lst ((xs ++ [y]).map D.int), .non) := by
  show (if (xs.map D.int).length ≤ most then some (D.lst (xs.map D.int ++ [.int y]), D.non) else none) = _
  rw [if_pos (by rw [List.length_map]; exact le_most h)]
  simp
theorem erase_perm : ∀ (l : List Int) (j : Nat) (h : j < l.length), (l[j] :: l.eraseIdx j).Perm l
  | x :: l, 0, _ => .refl _
  | x :: l, j + 1, h => by
    have := erase_perm l j (by simpa using h)
    simp only [List.getElem_cons_succ, List.eraseIdx_cons_succ]
    exact (List.Perm.swap x _ _).trans (this.cons x)
theorem erase_map : ∀ (l : List Int) (j : Nat), (l.map D.int).eraseIdx j = (l.eraseIdx j).map D.int
  | [], _ => rfl
  | x :: l, 0 => rfl
  | x :: l, j + 1 => by simp [erase_map l j]
theorem popAt_eq (xs : List Int) (j : Nat) (h : j < xs.length) (h2 : xs.length ≤ 1000) : uPopAt (.lst (xs.map D.int)) [.int (j : Int)] = some (.lst ((xs.eraseIdx j).map D.int), .int xs[j]) := by
  simp only [uPopAt]
  split
  · rename_i h3
    rw [Int.toNat_natCast, List.getElem?_map, List.getElem?_eq_getElem h, erase_map]
    rfl
  · rename_i h3
    exact absurd ⟨by omega, by omega⟩ h3
def free (s : Slot) : Prop := s = .emp ∨ ∃ d, s = .val d
theorem eMut_eq {i : Nat} {f : D → List D → Option (D × D)} {l : LM} {sl sl' : List Za.Slot} {s s' : Za.Slot} {d d' d2 r : D} {as : List AV} {ds : List D} (h1 : sl[i]? = some s) (h2 : mutD s = some d) (h3 : isLst d = true) (hl : l sl = .ok as sl') (h4 : sl'[i]? = some s') (h5 : mutD s' = some d') (h6 : isLst d' = true) (h7 : vals as = some ds) (h8 : f d' ds = some (d2, r)) : eMut i f l sl = .ok (.v r) (sl'.set i (reD s' d2)) := by
  unfold eMut
  rw [h1]
  simp only [Option.bind_some, h2, h3, if_true, hl, h4, h5, h6, h7, h8]
theorem lCons1 {m : EM} {sl sl' : List Za.Slot} {a : AV} (h : m sl = .ok a sl') : lCons m lNil sl = .ok [frz a] sl' := by
  unfold lCons Za.eV
  rw [h]
  rfl
theorem sExpr_eq {m : EM} {sl sl' : List Za.Slot} {a : AV} (h : m sl = .ok a sl') : sExpr m sl = .nx sl' := by
  unfold sExpr
  rw [h]
def ordBody : SM := sExpr (eMut 3 uAppend (lCons (eMut 2 uPopAt (lCons (eCall F_law_take [true, false] (lCons (eVar 0) (lCons (eFn fLen (lCons (eVar 2) lNil)) (lNil)))) (lNil))) (lNil)))
theorem forL_cons (x : List Za.Slot → Bool) (y : BM) (z : SM) (d : D) (ds : List D) {s s1 s2 : List Za.Slot} (h1 : y d s = some s1) (h2 : z s1 = .nx s2) (h3 : x s2 = true) : forL x y z (d :: ds) s = forL x y z ds s2 := by
  unfold forL
  rw [h1]
  simp only [h2, h3, if_true]
  cases ds <;> rfl
theorem order_loop {cs : List Int} {k : D} (ds : List D) : ∀ (b : D) (left ord : List Int) (s4 : Slot), Box cs b → free s4 → left.length = ds.length → left.length + ord.length ≤ 1000 →
    ∃ (b' : D) (ord' : List Int) (s4' : Slot), Box cs b' ∧ ord'.Perm (ord ++ left) ∧
      forL (fun _ => true) (bName 4) ordBody ds [.io b, .val k, .own (.lst (left.map D.int)), .own (.lst (ord.map D.int)), s4] = .nx [.io b', .val k, .own (.lst []), .own (.lst (ord'.map D.int)), s4'] := by
  induction ds with
  | nil =>
    intro b left ord s4 hb hf hl _
    have : left = [] := by cases left <;> simp_all
    subst this
    exact ⟨b, ord, s4, hb, by simp, rfl⟩
  | cons d ds ih =>
    intro b left ord s4 hb hf hl hm
    have hpos : 0 < left.length := by rw [hl]; simp
    obtain ⟨v, b', hb', h0, hlt, e⟩ := take_call (cs := cs) (sl := [.io b, .val k, .own (.lst (left.map D.int)), .own (.lst (ord.map D.int)), .val d]) (i := 0) (s := .io b) (b := b) (n := left.length) (m := eFn fLen (lCons (eVar 2) lNil)) rfl rfl hb (by simp [eSl, small, eMut, isLst, fnM, fin, outsOf, argS, sRet, sRetN, sSeq, sSet, sOwn, sStore, setV, setO, sItem, itemK, sExpr, sIf, sSkip, eOp2, op2, oIx, oGt, oLt, oGe, oLe, oDiv, oMod, oMul, oAdd, oSub, oPow, o2I, o2C, eLst, eTup, lCons, lNil, eFn, eVar, eC, Za.eV, eB, frz, cont, conts, vals, Za.tB, Za.tTr, truth, isMut, putMut, storable, setAt, mineD, mutD, reD, retR, bName, bTup, bAll, ePart, oSl, partD, fInt, fLen, fList]) (by omega) rfl
    obtain ⟨j, rfl⟩ := Int.eq_ofNat_of_zero_le h0
    have hj : j < left.length := by omega
    have hp : (ord ++ [left[j]] ++ left.eraseIdx j).Perm (ord ++ left) := by
      rw [List.append_assoc]
      exact List.Perm.append_left _ (erase_perm left j hj)
    have hle : (left.eraseIdx j).length + 1 = left.length := by rw [List.length_eraseIdx_of_lt hj]; omega
    obtain ⟨b2, ord2, s42, hb2, hp2, e2⟩ := ih b' (left.eraseIdx j) (ord ++ [left[j]]) (.val d) hb' (.inr ⟨d, rfl⟩) (by simp at hl; omega) (by simp; omega)
    refine ⟨b2, ord2, s42, hb2, hp2.trans hp, ?_⟩
    have hst : bName 4 d [.io b, .val k, .own (.lst (left.map D.int)), .own (.lst (ord.map D.int)), s4] = some [.io b, .val k, .own (.lst (left.map D.int)), .own (.lst (ord.map D.int)), .val d] := by
      rcases hf with rfl | ⟨d', rfl⟩ <;> simp [eSl, small, eMut, isLst, fnM, fin, outsOf, argS, sRet, sRetN, sSeq, sSet, sOwn, sStore, setV, setO, sItem, itemK, sExpr, sIf, sSkip, eOp2, op2, oIx, oGt, oLt, oGe, oLe, oDiv, oMod, oMul, oAdd, oSub, oPow, o2I, o2C, eLst, eTup, lCons, lNil, eFn, eVar, eC, Za.eV, eB, frz, cont, conts, vals, Za.tB, Za.tTr, truth, isMut, putMut, storable, setAt, mineD, mutD, reD, retR, bName, bTup, bAll, ePart, oSl, partD, fInt, fLen, fList]
    refine (forL_cons _ _ _ d ds hst (s2 := [.io b', .val k, .own (.lst ((left.eraseIdx j).map D.int)), .own (.lst ((ord ++ [left[j]]).map D.int)), .val d]) ?_ rfl).trans e2
    have q1 := eMut_eq (i := 2) (f := uPopAt) (s := .own (.lst (left.map D.int))) (d := .lst (left.map D.int)) (s' := .own (.lst (left.map D.int))) rfl rfl rfl (lCons1 e) rfl rfl rfl rfl (popAt_eq left j hj (by omega))
    exact sExpr_eq (eMut_eq (i := 3) (f := uAppend) (s := .own (.lst (ord.map D.int))) (d := .lst (ord.map D.int)) (s' := .own (.lst (ord.map D.int))) rfl rfl rfl (lCons1 q1) rfl rfl rfl rfl (append_eq ord left[j] (by omega)))
theorem rng1 {l : LM} {sl sl' : List Za.Slot} {n : Nat} (h : l sl = .ok [.v (.int (n : Int))] sl') (hn : n ≤ 1000) : iRng l sl = .ok (rngD 0 n) none sl' := by
  have hc : conts sl' [.v (.int (n : Int))] = some [.int (n : Int)] := rfl
  unfold iRng
  rw [h]
  simp only [hc]
  split
  · rw [Int.toNat_natCast]
  · rename_i h3
    exact absurd ⟨by omega, by omega⟩ h3
theorem sSeq_nx {a b : SM} {sl s1 : List Za.Slot} (h : a sl = .nx s1) : sSeq a b sl = b s1 := by
  unfold sSeq
  rw [h]
theorem sFor_none {im : IM} {y : BM} {z : SM} {ds : List D} {sl s1 : List Za.Slot} (h : im sl = .ok ds none s1) : sFor im y z sl = forL (fun _ => true) y z ds s1 := by
  unfold sFor
  rw [h]
theorem own_nil {i : Nat} {sl : List Za.Slot} (h : storable sl i = true) : sOwn i (eLst lNil) sl = .nx (sl.set i (.own (.lst []))) := by
  have e : eLst lNil sl = .ok (.n (.lst [])) sl := by
    unfold eLst lNil
    simp only [vals]
    exact if_pos (Nat.zero_le _)
  unfold sOwn sStore
  rw [e]
  exact if_pos h
theorem order_eq {cs : List Int} {b : D} (keys : List Int) (hb : Box cs b) (hl : keys.length ≤ 1000) : ∃ (b' : D) (ord : List Int), Box cs b' ∧ ord.Perm keys ∧ F_law_order [.io b, .v (.lst (keys.map D.int))] = .ok (.lst (ord.map D.int)) true [b'] := by
  obtain ⟨b', ord, s4, hb', hp, e⟩ := order_loop (cs := cs) (k := .lst (keys.map D.int)) (rngD 0 keys.length) b keys [] .emp hb (.inl rfl) (by simp [rngD]) (by simpa using hl)
  refine ⟨b', ord, hb', by simpa using hp, ?_⟩
  have h62 : (keys.length : Int) < 4611686018427387904 := by omega
  have h61 : (-4611686018427387904 : Int) ≤ keys.length := by omega
  have hm : m_law_order = sSeq (sOwn 2 (eFn fList (lCons (eVar 1) lNil))) (sSeq (sOwn 3 (eLst (lNil))) (sSeq (sFor (iRng (lCons (eFn fLen (lCons (eVar 1) lNil)) lNil)) (bName 4) ordBody) (sRet (eVar 3)))) := rfl
  have hi : iRng (lCons (eFn fLen (lCons (eVar 1) lNil)) lNil) [.io b, .val (.lst (keys.map D.int)), .own (.lst (keys.map D.int)), .own (.lst []), .emp] = .ok (rngD 0 keys.length) none [.io b, .val (.lst (keys.map D.int)), .own (.lst (keys.map D.int)), .own (.lst []), .emp] := by
    exact rng1 (lCons1 (a := .v (.int (keys.length : Int))) (by simp [eSl, small, eMut, isLst, fnM, fin, outsOf, argS, sRet, sRetN, sSeq, sSet, sOwn, sStore, setV, setO, sItem, itemK, sExpr, sIf, sSkip, eOp2, op2, oIx, oGt, oLt, oGe, oLe, oDiv, oMod, oMul, oAdd, oSub, oPow, o2I, o2C, eLst, eTup, lCons, lNil, eFn, eVar, eC, Za.eV, eB, frz, cont, conts, vals, Za.tB, Za.tTr, truth, isMut, putMut, storable, setAt, mineD, mutD, reD, retR, bName, bTup, bAll, ePart, oSl, partD, fInt, fLen, fList])) hl
  have hf : sFor (iRng (lCons (eFn fLen (lCons (eVar 1) lNil)) lNil)) (bName 4) ordBody [.io b, .val (.lst (keys.map D.int)), .own (.lst (keys.map D.int)), .own (.lst []), .emp] = .nx [.io b', .val (.lst (keys.map D.int)), .own (.lst []), .own (.lst (ord.map D.int)), s4] := by
    exact (sFor_none hi).trans e
  have h0 : m_law_order [.io b, .val (.lst (keys.map D.int)), .emp, .emp, .emp] = .ret (.s 3) [.io b', .val (.lst (keys.map D.int)), .own (.lst []), .own (.lst (ord.map D.int)), s4] := by
    rw [hm, sSeq_nx (s1 := [.io b, .val (.lst (keys.map D.int)), .own (.lst (keys.map D.int)), .emp, .emp]) (by simp [eSl, small, eMut, isLst, fnM, fin, outsOf, argS, sRet, sRetN, sSeq, sSet, sOwn, sStore, setV, setO, sItem, itemK, sExpr, sIf, sSkip, eOp2, op2, oIx, oGt, oLt, oGe, oLe, oDiv, oMod, oMul, oAdd, oSub, oPow, o2I, o2C, eLst, eTup, lCons, lNil, eFn, eVar, eC, Za.eV, eB, frz, cont, conts, vals, Za.tB, Za.tTr, truth, isMut, putMut, storable, setAt, mineD, mutD, reD, retR, bName, bTup, bAll, ePart, oSl, partD, fInt, fLen, fList]), sSeq_nx (s1 := [.io b, .val (.lst (keys.map D.int)), .own (.lst (keys.map D.int)), .own (.lst []), .emp]) (own_nil rfl), sSeq_nx hf]
    rfl
  unfold F_law_order fnM
  have hA : (List.map argS [Arg.io b, .v (.lst (keys.map D.int))] ++ List.replicate (5 - [Arg.io b, .v (.lst (keys.map D.int))].length) Za.Slot.emp) = [.io b, .val (.lst (keys.map D.int)), .emp, .emp, .emp] := rfl
  rw [hA, h0]
  rfl
end Zk06
end
section
set_option linter.all false
set_option maxRecDepth 10000
namespace Za
open PySem PySem.Spec PyProof.Rows L2
/-! the evaluator's functions, each as a function of what its parts gave: a step never looks into what comes later -/
def erB : ER → (AV → EM) → ER
  | .ok a s, k => k a s
  | .err c ns vs s, _ => .err c ns vs s
  | .bad, _ => .bad
theorem eB_r {m : EM} {k : AV → EM} {sl : List Slot} : eB m k sl = erB (m sl) k := by
  unfold eB erB; cases m sl <;> rfl
def erV : ER → ER
  | .ok a s => .ok (frz a) s
  | .err c ns vs s => .err c ns vs s
  | .bad => .bad
theorem eV_r {m : EM} {sl : List Slot} : Za.eV m sl = erV (m sl) := by
  unfold Za.eV erV; cases m sl <;> rfl
def opC (f : D → D → Option RK) (sl : List Slot) : Option D → Option D → ER
  | some x, some y => retR (f x y) sl
  | _, _ => .bad
theorem op2_r {f : D → D → Option RK} {x y : AV} {sl : List Slot} : op2 f x y sl = opC f sl (cont sl x) (cont sl y) := by
  unfold op2 opC; cases cont sl x <;> cases cont sl y <;> rfl
def erO1 (f : D → D → Option RK) : ER → EM → ER
  | .ok a s, b => erB (erV (b s)) fun y => op2 f (frz a) y
  | .err c ns vs s, _ => .err c ns vs s
  | .bad, _ => .bad
def erO2 (f : D → D → Option RK) (x : AV) : ER → ER
  | .ok a s => opC f s (cont s x) (cont s (frz a))
  | .err c ns vs s => .err c ns vs s
  | .bad => .bad
def erO (f : D → D → Option RK) : ER → EM → ER
  | .ok a s, b => erO2 f (frz a) (b s)
  | .err c ns vs s, _ => .err c ns vs s
  | .bad, _ => .bad
theorem eOp2_r {f : D → D → Option RK} {a b : EM} {sl : List Slot} : eOp2 f a b sl = erO f (a sl) b := by
  unfold eOp2 eB Za.eV erO
  cases a sl with
  | ok x s =>
    simp only
    unfold erO2
    cases b s <;> rfl
  | _ => rfl
def trC (s : List Slot) : Option D → TR
  | some (.bl b) => .ok b s
  | _ => .bad
def erT : ER → TR
  | .ok a s => trC s (cont s a)
  | .err c ns vs s => .err c ns vs s
  | .bad => .bad
theorem tB_r {m : EM} {sl : List Slot} : Za.tB m sl = erT (m sl) := by
  unfold Za.tB erT
  cases m sl with
  | ok a s => simp only; unfold trC; cases cont s a with
    | none => rfl
    | some d => cases d <;> rfl
  | _ => rfl
def trD (s : List Slot) : Option Bool → TR
  | some b => .ok b s
  | none => .bad
def trE (s : List Slot) : Option D → TR
  | some d => trD s (truth d)
  | none => .bad
def erTr : ER → TR
  | .ok a s => trE s (cont s a)
  | .err c ns vs s => .err c ns vs s
  | .bad => .bad
theorem tTr_r {m : EM} {sl : List Slot} : Za.tTr m sl = erTr (m sl) := by
  unfold Za.tTr erTr
  cases m sl with
  | ok a s => simp only; unfold trE; cases cont s a with
    | none => rfl
    | some d => simp only; unfold trD; cases truth d <;> rfl
  | _ => rfl
def trA : TR → TM → TR
  | .ok x s, b => if x = true then b s else .ok false s
  | .err c ns vs s, _ => .err c ns vs s
  | .bad, _ => .bad
theorem tAndM_r {a b : TM} {sl : List Slot} : tAndM a b sl = trA (a sl) b := by
  unfold tAndM trA; cases a sl with | ok x s => cases x <;> rfl | _ => rfl
def trO : TR → TM → TR
  | .ok x s, b => if x = true then .ok true s else b s
  | .err c ns vs s, _ => .err c ns vs s
  | .bad, _ => .bad
theorem tOrM_r {a b : TM} {sl : List Slot} : tOrM a b sl = trO (a sl) b := by
  unfold tOrM trO; cases a sl with | ok x s => cases x <;> rfl | _ => rfl
def trN : TR → TR
  | .ok x s => .ok (!x) s
  | .err c ns vs s => .err c ns vs s
  | .bad => .bad
theorem tNotM_r {a : TM} {sl : List Slot} : tNotM a sl = trN (a sl) := by
  unfold tNotM trN; cases a sl with | ok x s => rfl | _ => rfl
def trAV : TR → EM → ER
  | .ok x s, b => if x = true then b s else .ok (.v (.bl false)) s
  | .err c ns vs s, _ => .err c ns vs s
  | .bad, _ => .bad
theorem eAndV_r {a b : EM} {sl : List Slot} : eAndV a b sl = trAV (erT (a sl)) b := by
  unfold eAndV trAV; rw [tB_r]; try (cases erT (a sl) with | ok x s => cases x <;> rfl | _ => rfl)
def trOV : TR → EM → ER
  | .ok x s, b => if x = true then .ok (.v (.bl true)) s else b s
  | .err c ns vs s, _ => .err c ns vs s
  | .bad, _ => .bad
theorem eOrV_r {a b : EM} {sl : List Slot} : eOrV a b sl = trOV (erT (a sl)) b := by
  unfold eOrV trOV; rw [tB_r]; try (cases erT (a sl) with | ok x s => cases x <;> rfl | _ => rfl)
def trNV : TR → ER
  | .ok x s => .ok (.v (.bl (!x))) s
  | .err c ns vs s => .err c ns vs s
  | .bad => .bad
theorem eNotV_r {a : EM} {sl : List Slot} : eNotV a sl = trNV (erT (a sl)) := by
  unfold eNotV trNV; rw [tB_r]; try (cases erT (a sl) with | ok x s => rfl | _ => rfl)
def trIV : TR → EM → EM → ER
  | .ok x s, a, b => if x = true then a s else b s
  | .err c ns vs s, _, _ => .err c ns vs s
  | .bad, _, _ => .bad
theorem eIf_r {t : TM} {a b : EM} {sl : List Slot} : eIf t a b sl = trIV (t sl) a b := by
  unfold eIf trIV; cases t sl with | ok x s => cases x <;> rfl | _ => rfl
def slA (sl : List Slot) (j k : Nat) : Option Slot → ER
  | some (.sh _ _) => .ok (.p j k) sl
  | _ => .bad
def slV (sl : List Slot) (i : Nat) : Option Slot → ER
  | some (.val d) => .ok (.v d) sl
  | some (.own _) => .ok (.s i) sl
  | some (.io _) => .ok (.s i) sl
  | some (.lock _ _) => .ok (.s i) sl
  | some (.al j k) => slA sl j k sl[j]?
  | _ => .bad
theorem eVar_r {i : Nat} {sl : List Slot} : eVar i sl = slV sl i sl[i]? := by
  unfold eVar slV slA
  cases sl[i]? with
  | none => rfl
  | some s => cases s <;> first | rfl | (simp only; split <;> rfl)
theorem eC_r {d : D} {sl : List Slot} : eC d sl = .ok (.v d) sl := rfl
theorem lNil_r {sl : List Slot} : lNil sl = .ok [] sl := rfl
def lrC (a : AV) : LR → LR
  | .ok as s => .ok (a :: as) s
  | .err c ns vs s => .err c ns vs s
  | .bad => .bad
def erC : ER → LM → LR
  | .ok a s, l => lrC (frz a) (l s)
  | .err c ns vs s, _ => .err c ns vs s
  | .bad, _ => .bad
theorem lCons_r {m : EM} {l : LM} {sl : List Slot} : lCons m l sl = erC (m sl) l := by
  unfold lCons Za.eV erC
  cases m sl with
  | ok a s => simp only; unfold lrC; cases l s <;> rfl
  | _ => rfl
def lrF2 (f : List D → Option RK) (s : List Slot) : Option (List D) → ER
  | some ds => retR (f ds) s
  | none => .bad
def lrF (f : List D → Option RK) : LR → ER
  | .ok as s => lrF2 f s (conts s as)
  | .err c ns vs s => .err c ns vs s
  | .bad => .bad
theorem eFn_r {f : List D → Option RK} {l : LM} {sl : List Slot} : eFn f l sl = lrF f (l sl) := by
  unfold eFn lrF
  cases l sl with
  | ok as s => simp only; unfold lrF2; cases conts s as <;> rfl
  | _ => rfl
def lrT2 (s : List Slot) : Option (List D) → ER
  | some ds => if ds.length ≤ most then .ok (.v (.tup ds)) s else .bad
  | none => .bad
def lrT : LR → ER
  | .ok as s => lrT2 s (vals as)
  | .err c ns vs s => .err c ns vs s
  | .bad => .bad
theorem eTup_r {l : LM} {sl : List Slot} : eTup l sl = lrT (l sl) := by
  unfold eTup lrT
  cases l sl with
  | ok as s => simp only; unfold lrT2; cases vals as <;> rfl
  | _ => rfl
def lrL2 (s : List Slot) : Option (List D) → ER
  | some ds => if ds.length ≤ most then .ok (.n (.lst ds)) s else .bad
  | none => .bad
def lrL : LR → ER
  | .ok as s => lrL2 s (vals as)
  | .err c ns vs s => .err c ns vs s
  | .bad => .bad
theorem eLst_r {l : LM} {sl : List Slot} : eLst l sl = lrL (l sl) := by
  unfold eLst lrL
  cases l sl with
  | ok as s => simp only; unfold lrL2; cases vals as <;> rfl
  | _ => rfl
def srQ : SR → SM → SR
  | .nx s, b => b s
  | .brk s, _ => .brk s
  | .cnt s, _ => .cnt s
  | .ret a s, _ => .ret a s
  | .retM ls ks s, _ => .retM ls ks s
  | .err c ns vs s, _ => .err c ns vs s
  | .bad, _ => .bad
theorem sSeq_r {a b : SM} {sl : List Slot} : sSeq a b sl = srQ (a sl) b := by
  unfold sSeq srQ; cases a sl <;> rfl
def erE : ER → SR
  | .ok _ s => .nx s
  | .err c ns vs s => .err c ns vs s
  | .bad => .bad
theorem sExpr_r {m : EM} {sl : List Slot} : sExpr m sl = erE (m sl) := by
  unfold sExpr erE; cases m sl <;> rfl
def erR : ER → SR
  | .ok a s => .ret a s
  | .err c ns vs s => .err c ns vs s
  | .bad => .bad
theorem sRet_r {m : EM} {sl : List Slot} : sRet m sl = erR (m sl) := by
  unfold sRet erR; cases m sl <;> rfl
theorem sSkip_r {sl : List Slot} : sSkip sl = .nx sl := rfl
theorem sRetN_r {sl : List Slot} : sRetN sl = .ret (.v .non) sl := rfl
theorem sBreak_r {sl : List Slot} : sBreak sl = .brk sl := rfl
theorem sCont_r {sl : List Slot} : sCont sl = .cnt sl := rfl
def trI : TR → SM → SM → SR
  | .ok x s, a, b => if x = true then a s else b s
  | .err c ns vs s, _, _ => .err c ns vs s
  | .bad, _, _ => .bad
theorem sIf_r {t : TM} {a b : SM} {sl : List Slot} : sIf t a b sl = trI (t sl) a b := by
  unfold sIf trI; cases t sl with | ok x s => cases x <;> rfl | _ => rfl
def erS (put : AV → List Slot → SR) : ER → SR
  | .ok a s => put a s
  | .err c ns vs s => .err c ns vs s
  | .bad => .bad
theorem sStore_r {put : AV → List Slot → SR} {m : EM} {sl : List Slot} : sStore put m sl = erS put (m sl) := by
  unfold sStore erS; cases m sl <;> rfl
theorem sSet_r {i : Nat} {m : EM} {sl : List Slot} : sSet i m sl = erS (setV i) (m sl) := sStore_r
theorem sOwn_r {i : Nat} {m : EM} {sl : List Slot} : sOwn i m sl = erS (setO i) (m sl) := sStore_r
theorem sSetX_r {ow : Bool} {i : Nat} {m : EM} {sl : List Slot} : sSetX ow i m sl = erS (setX ow i) (m sl) := sStore_r
def avV (i : Nat) (sl : List Slot) : AV → SR
  | .v d => if storable sl i = true then .nx (sl.set i (.val d)) else .bad
  | _ => .bad
theorem setV_r {i : Nat} {a : AV} {sl : List Slot} : setV i a sl = avV i sl (frz a) := by
  unfold setV avV; cases frz a <;> rfl
def mkK (F : FM) (s : List Slot) : Option (List Za.Arg × List Nat × List Nat) → ER
  | some p => callR p.2.1 p.2.2 s (F p.1)
  | none => .bad
def lrK (F : FM) (modes : List Bool) : LR → ER
  | .ok as s => mkK F s (mkArgs s modes as)
  | .err c ns vs s => .err c ns vs s
  | .bad => .bad
theorem eCall_r {F : FM} {modes : List Bool} {l : LM} {sl : List Slot} : eCall F modes l sl = lrK F modes (l sl) := by
  unfold eCall lrK
  cases l sl with
  | ok as s => simp only; unfold mkK; cases mkArgs s modes as <;> rfl
  | _ => rfl
def erX (c : Nat) (f : Str) : ER → SR
  | .ok (.v d) s => .err c [f] [d] s
  | .err c' ns vs s => .err c' ns vs s
  | _ => .bad
theorem sRaise_r {c : Nat} {f : Str} {m : EM} {sl : List Slot} : sRaise c f m sl = erX c f (m sl) := by
  unfold sRaise erX; cases m sl with
  | ok a s => cases a <;> rfl
  | _ => rfl
def slI (k : Option Int → EM) (s : List Slot) : Option D → ER
  | some (.int i) => k (some i) s
  | _ => .bad
def erP (k : Option Int → EM) : ER → ER
  | .ok a s => slI k s (cont s a)
  | .err c ns vs s => .err c ns vs s
  | .bad => .bad
theorem ePart_none {k : Option Int → EM} {sl : List Slot} : ePart none k sl = k none sl := rfl
theorem ePart_some {m : EM} {k : Option Int → EM} {sl : List Slot} : ePart (some m) k sl = erP k (m sl) := by
  have e : ePart (some m) k sl = eB m (fun a => fun sl => match cont sl a with | some (.int i) => k (some i) sl | _ => .bad) sl := rfl
  rw [e, eB_r]
  unfold erB erP
  cases m sl with
  | ok a s => simp only; unfold slI; cases cont s a with
    | none => rfl
    | some d => cases d <;> rfl
  | _ => rfl
def cutC (l h : Option Int) (s : List Slot) : Option D → ER
  | some d => retR (oSl d l h) s
  | none => .bad
def slK2 (x : AV) (l : Option Int) (h : Option Int) : EM := fun sl => cutC l h sl (cont sl x)
def slK (x : AV) (hi : Option EM) (l : Option Int) : EM := fun sl => ePart hi (slK2 x l) sl
def erSl (lo hi : Option EM) : ER → ER
  | .ok a s => ePart lo (slK (frz a) hi) s
  | .err c ns vs s => .err c ns vs s
  | .bad => .bad
theorem slK_r {x : AV} {hi : Option EM} {l : Option Int} {sl : List Slot} : slK x hi l sl = ePart hi (slK2 x l) sl := rfl
theorem slK2_r {x : AV} {l h : Option Int} {sl : List Slot} : slK2 x l h sl = cutC l h sl (cont sl x) := rfl
theorem eSl_r {a : EM} {lo hi : Option EM} {sl : List Slot} : eSl a lo hi sl = erSl lo hi (a sl) := by
  have e : eSl a lo hi sl = eB (Za.eV a) (fun x => ePart lo fun l => ePart hi fun h => fun sl => match cont sl x with | some d => retR (oSl d l h) sl | none => .bad) sl := rfl
  have e2 : (fun x => ePart lo fun l => ePart hi fun h => fun sl => (match cont sl x with | some d => retR (oSl d l h) sl | none => ER.bad)) = fun x => ePart lo (slK x hi) := by
    funext x
    have e4 : (fun l => ePart hi fun h => fun sl => (match cont sl x with | some d => retR (oSl d l h) sl | none => ER.bad)) = slK x hi := by
      funext l
      have e3 : (fun h => fun sl => (match cont sl x with | some d => retR (oSl d l h) sl | none => ER.bad)) = slK2 x l := by
        funext h sl
        unfold slK2 cutC
        cases cont sl x <;> rfl
      rw [e3]
      rfl
    rw [e4]
  rw [e, e2, eB_r, eV_r]
  unfold erB erV erSl
  cases a sl <;> rfl
def kdV (sl : List Slot) (i k : Nat) : Option Kid → ER
  | some (.fz d) => .ok (.v d) sl
  | some (.ow _) => .ok (.p i k) sl
  | none => .bad
def slKd (sl : List Slot) (i k : Nat) : Option Slot → ER
  | some (.sh _ ks) => kdV sl i k ks[k]?
  | _ => eOp2 oIx (eVar i) (eC (.int (k : Nat))) sl
theorem eKid_r {i k : Nat} {sl : List Slot} : eKid i k sl = slKd sl i k sl[i]? := by
  unfold eKid slKd
  cases sl[i]? with
  | none => rfl
  | some s => cases s <;> first | rfl | (simp only; unfold kdV; split <;> simp_all)
theorem eqvs_ints : ∀ (a b : List Int), eqvs (a.map D.int) (b.map D.int) = decide (a = b)
  | [], [] => by simp [eqvs]
  | [], y :: b => by simp [eqvs]
  | x :: a, [] => by simp [eqvs]
  | x :: a, y :: b => by
    simp only [List.map_cons, eqvs, eqv, eqvs_ints a b, List.cons.injEq]
    by_cases h : x = y <;> simp [h]
theorem eqv_ints (a b : List Int) : eqv (.lst (a.map D.int)) (.lst (b.map D.int)) = decide (a = b) := by rw [← eqvs_ints]; rfl
theorem flat_str (n : Nat) (x : Str) : flat n (.str x) = true := by simp [flat]
theorem flat_bl (n : Nat) (x : Bool) : flat n (.bl x) = true := by simp [flat]
theorem flat_non (n : Nat) : flat n .non = true := by simp [flat]
theorem flats_map : ∀ (n : Nat) (xs : List Int), flats n (xs.map D.int) = true
  | _, [] => by simp [flats]
  | n, x :: xs => by simp [flats, flat, flats_map n xs]
theorem flat_ints (n : Nat) (x : List Int) : flat (n + 1) (.lst (x.map D.int)) = true := by simp [flat, flats_map]
end Za
end
section
set_option linter.all false
set_option maxRecDepth 10000
namespace Zk06
open PySem PySem.Spec PyProof.Rows L2 Za
theorem fnM_eq {n : Nat} {m : SM} {args : List Za.Arg} {sl : List Za.Slot} {r : SR} (h : args.map argS ++ List.replicate (n - args.length) .emp = sl) (h2 : m sl = r) : fnM n m args = fin args r := by
  unfold fnM; rw [h, h2]
theorem mst0 : (0 ≤ most) = True := eq_true (le_most (by decide))
theorem mst1 : (1 ≤ most) = True := eq_true (le_most (by decide))
theorem mst2 : (2 ≤ most) = True := eq_true (le_most (by decide))
theorem mst3 : (3 ≤ most) = True := eq_true (le_most (by decide))
theorem mst4 : (4 ≤ most) = True := eq_true (le_most (by decide))
def seqR (r : SR) (b : SM) : SR := match r with
  | .nx s => b s
  | r => r
theorem sSeq_eq {a b : SM} {sl : List Za.Slot} : sSeq a b sl = seqR (a sl) b := rfl
/-! tests and branches, without a split -/
theorem or_ite (p : Prop) [Decidable p] (y : Bool) (s : List Za.Slot) : (if p then TR.ok true s else TR.ok y s) = TR.ok (decide p || y) s := by by_cases h : p <;> simp [h]
theorem and_ite (p : Prop) [Decidable p] (y : Bool) (s : List Za.Slot) : (if p then TR.ok y s else TR.ok false s) = TR.ok (decide p && y) s := by by_cases h : p <;> simp [h]
theorem tOrM_eq {a b : TM} {sl : List Za.Slot} : tOrM a b sl = (match a sl with | .ok x s => if x = true then .ok true s else b s | r => r) := by
  unfold tOrM; cases a sl with | ok x s => cases x <;> rfl | _ => rfl
theorem tAndM_eq {a b : TM} {sl : List Za.Slot} : tAndM a b sl = (match a sl with | .ok x s => if x = true then b s else .ok false s | r => r) := by
  unfold tAndM; cases a sl with | ok x s => cases x <;> rfl | _ => rfl
theorem sIf_eq {t : TM} {a b : SM} {sl : List Za.Slot} : sIf t a b sl = (match t sl with | .ok x s => if x = true then a s else b s | .err c ns vs sl' => .err c ns vs sl' | .bad => .bad) := by
  unfold sIf; cases t sl with | ok x s => cases x <;> rfl | _ => rfl
theorem eAndV_eq {a b : EM} {sl : List Za.Slot} : eAndV a b sl = (match Za.tB a sl with | .ok x s => if x = true then b s else .ok (.v (.bl false)) s | .err c ns vs sl' => .err c ns vs sl' | .bad => .bad) := by
  unfold eAndV; cases Za.tB a sl with | ok x s => cases x <;> rfl | _ => rfl
theorem flats_ints (n : Nat) (xs : List Int) : flats n (xs.map D.int) = true := flats_map n xs
theorem flat_int (n : Nat) (x : Int) : flat n (.int x) = true := by simp [flat]
theorem cut_to (xs : List Int) (p : Nat) : cutD (xs.map D.int) none (some (p : Int)) = (xs.take p).map D.int := by
  unfold Za.cutD
  rw [HT.sIx_nat, HT.sIx_none]
  simp [List.map_take, List.take_take]
theorem cut_from (xs : List Int) (p : Nat) : cutD (xs.map D.int) (some (p : Int)) none = (xs.drop p).map D.int := by
  unfold Za.cutD
  rw [HT.sIx_nat, HT.sIx_none]
  by_cases h : p ≤ xs.length
  · simp [List.map_drop, Nat.min_eq_left h]
    rw [List.take_of_length_le (by simp)]
  · simp [List.map_drop, List.drop_eq_nil_of_le (show xs.length ≤ p by omega)]
    omega
theorem any_ints (xs : List Int) (k : Int) : (xs.map D.int).any (fun y => eqv y (.int k)) = decide (k ∈ xs) := by
  induction xs with
  | nil => simp
  | cons x xs ih => 
    rw [List.map_cons, List.any_cons, ih]
    simp only [eqv, List.mem_cons]
    by_cases h : x = k
    · simp [h]
    · have h' : ¬ k = x := fun e => h e.symm
      simp [h, h']
theorem any_ints' (xs : List Int) (k : Int) : xs.any ((fun y => eqv y (.int k)) ∘ D.int) = decide (k ∈ xs) := by
  rw [← List.any_map]; exact any_ints xs k
theorem all_ints (xs : List Int) (k : Int) : ((xs.map D.int).any (fun y => eqv y (.int k)) = false) = (k ∉ xs) := by
  rw [any_ints]; simp
theorem intsD_map : ∀ (ns : List Int), intsD (ns.map D.int) = some ns
  | [] => rfl
  | n :: ns => by simp [intsD, intsD_map ns]
theorem rngD_succ (lo : Int) (n : Nat) : rngD lo (n + 1) = .int lo :: rngD (lo + 1) n := by
  unfold rngD
  rw [List.range_succ_eq_map, List.map_cons, List.map_map]
  congr 1
  · simp
  · apply List.map_congr_left
    intro i _
    simp only [Function.comp]
    congr 1
    omega
theorem at_int (xs : List Int) (p : Nat) (h : p < xs.length) : atI (xs.map D.int) (p : Int) = some (.int xs[p]) := by
  simp [atI, ixN, h]
def wrongAt (xs : List Int) (p : Nat) (k : Int) : Bool := decide (12 ≤ p) || (decide (k < 0) || (decide (9999 < k) || decide (k ∈ xs.take p)))
theorem cast_le12 (p : Nat) : ((12:Int) ≤ (p:Int)) = (12 ≤ p) := by simp; omega
/-- the least wrong place from p on -/
def wrS (xs : List Int) : Nat → List Int → Option Nat
  | _, [] => none
  | p, k :: r => if wrongAt xs p k = true then some p else wrS xs (p + 1) r
theorem wrS_cons (xs : List Int) (p : Nat) (k : Int) (r : List Int) : wrS xs p (k :: r) = if wrongAt xs p k = true then some p else wrS xs (p + 1) r := rfl
def wr (xs : List Int) : Option Nat := wrS xs 0 xs
def optD : Option Nat → D
  | none => .non
  | some p => .int (p : Int)
def retO (o : Option Nat) (sl : List Za.Slot) : SR := match o with
  | some q => .ret (.v (.int (q : Int))) sl
  | none => .nx sl
def fwpBody : SM := (sIf (tOrM (tB (eOp2 oGe (eVar 1) (eC (.int 12)))) (tOrM (tB (eOp2 oLt (eVar 2) (eC (.int 0)))) (tOrM (tB (eOp2 oGt (eVar 2) (eC (.int 9999)))) (tB (eOp2 (oIn false) (eVar 2) (eSl (eVar 0) none (some (eVar 1)))))))) (sRet (eVar 1)) (sSkip))
theorem fwp_body (xs : List Int) (p : Nat) (k : Int) : fwpBody [.val (.lst (xs.map D.int)), .val (.int p), .val (.int k)] = if wrongAt xs p k = true then .ret (.v (.int p)) [.val (.lst (xs.map D.int)), .val (.int p), .val (.int k)] else .nx [.val (.lst (xs.map D.int)), .val (.int p), .val (.int k)] := by
  simp [fwpBody, sIf_eq, tOrM_eq, eSl, small, eMut, isLst, fnM, fin, outsOf, argS, sRet, sRetN, sSeq, sSet, sOwn, sStore, setV, setO, sItem, itemK, sExpr, sSkip, eOp2, op2, oIx, oGt, oLt, oGe, oLe, oDiv, oMod, oMul, oAdd, oSub, oPow, o2I, o2C, eLst, eTup, lCons, lNil, eFn, eVar, eC, Za.eV, eB, frz, cont, conts, vals, Za.tB, Za.tTr, truth, isMut, putMut, storable, setAt, mineD, mutD, reD, retR, bName, bTup, bAll, ePart, oSl, partD, fInt, fLen, fList, or_ite, wrongAt, oIn, seqD, cut_to, any_ints', flat_int, flats_ints, -List.map_take, cast_le12]
theorem forL_ret (x : List Za.Slot → Bool) (y : BM) (z : SM) (d : D) (ds : List D) {s s1 s2 : List Za.Slot} {a : AV} (h1 : y d s = some s1) (h2 : z s1 = .ret a s2) : forL x y z (d :: ds) s = .ret a s2 := by
  unfold forL
  rw [h1]
  simp only [h2]
theorem fwp_loop (xs : List Int) : ∀ (ds : List Int) (p : Nat) (s1 s2 : Slot), free s1 → free s2 → ∃ t1 t2, free t1 ∧ free t2 ∧ forL (fun _ => true) (bTup [bName 1, bName 2]) fwpBody (enumD p (ds.map D.int)) [.val (.lst (xs.map D.int)), s1, s2] = retO (wrS xs p ds) [.val (.lst (xs.map D.int)), t1, t2] := by
  intro ds
  induction ds with
  | nil => intro p s1 s2 f1 f2; exact ⟨s1, s2, f1, f2, rfl⟩
  | cons k ds ih =>
    intro p s1 s2 f1 f2
    have hb : bTup [bName 1, bName 2] (.tup [.int (p : Nat), .int k]) [.val (.lst (xs.map D.int)), s1, s2] = some [.val (.lst (xs.map D.int)), .val (.int p), .val (.int k)] := by
      rcases f1 with rfl | ⟨d1, rfl⟩ <;> rcases f2 with rfl | ⟨d2, rfl⟩ <;> simp [eSl, small, eMut, isLst, fnM, fin, outsOf, argS, sRet, sRetN, sSeq, sSet, sOwn, sStore, setV, setO, sItem, itemK, sExpr, sIf, sSkip, eOp2, op2, oIx, oGt, oLt, oGe, oLe, oDiv, oMod, oMul, oAdd, oSub, oPow, o2I, o2C, eLst, eTup, lCons, lNil, eFn, eVar, eC, Za.eV, eB, frz, cont, conts, vals, Za.tB, Za.tTr, truth, isMut, putMut, storable, setAt, mineD, mutD, reD, retR, bName, bTup, bAll, ePart, oSl, partD, fInt, fLen, fList]
    by_cases h : wrongAt xs p k = true
    · refine ⟨.val (.int p), .val (.int k), .inr ⟨_, rfl⟩, .inr ⟨_, rfl⟩, (forL_ret _ _ _ _ _ hb (by rw [fwp_body, if_pos h])).trans ?_⟩
      unfold wrS
      rw [if_pos h]
      rfl
    · obtain ⟨t1, t2, g1, g2, e⟩ := ih (p + 1) (.val (.int p)) (.val (.int k)) (.inr ⟨_, rfl⟩) (.inr ⟨_, rfl⟩)
      refine ⟨t1, t2, g1, g2, (forL_cons _ _ _ _ _ hb (by rw [fwp_body, if_neg h]) rfl).trans ?_⟩
      rw [e, wrS_cons, if_neg h]
theorem first_wrong_place_eq (xs : List Int) : Ffirst_wrong_place [.v (.lst (xs.map D.int))] = .ok (optD (wr xs)) false [] := by
  obtain ⟨t1, t2, _, _, e⟩ := fwp_loop xs xs 0 .emp .emp (.inl rfl) (.inl rfl)
  have hi : iEnumM (eVar 0) [.val (.lst (xs.map D.int)), .emp, .emp] = .ok (enumD 0 (xs.map D.int)) none [.val (.lst (xs.map D.int)), .emp, .emp] := rfl
  have hm : mfirst_wrong_place = sSeq (sFor (iEnumM (eVar 0)) (bTup [bName 1, bName 2]) fwpBody) (sRet (eC .non)) := rfl
  have h : mfirst_wrong_place [.val (.lst (xs.map D.int)), .emp, .emp] = seqR (retO (wr xs) [.val (.lst (xs.map D.int)), t1, t2]) (sRet (eC .non)) := by
    rw [hm, sSeq_eq, sFor_none hi, e]
    rfl
  unfold Ffirst_wrong_place
  refine (fnM_eq (n := 3) (args := [.v (.lst (xs.map D.int))]) (sl := [.val (.lst (xs.map D.int)), .emp, .emp]) rfl h).trans ?_
  cases wr xs <;> rfl
def wrBody : SM := (sIf (tOrM (tB (eOp2 oGe (eVar 1) (eC (.int 12)))) (tOrM (tB (eOp2 oLt (eOp2 oIx (eVar 0) (eVar 1)) (eC (.int 0)))) (tOrM (tB (eOp2 oGt (eOp2 oIx (eVar 0) (eVar 1)) (eC (.int 9999)))) (tB (eOp2 (oIn false) (eOp2 oIx (eVar 0) (eVar 1)) (eSl (eVar 0) none (some (eVar 1)))))))) (sRet (eVar 1)) (sSkip))
theorem wr_body (xs : List Int) (p : Nat) (h : p < xs.length) : wrBody [.val (.lst (xs.map D.int)), .val (.int p)] = if wrongAt xs p xs[p] = true then .ret (.v (.int p)) [.val (.lst (xs.map D.int)), .val (.int p)] else .nx [.val (.lst (xs.map D.int)), .val (.int p)] := by
  simp [wrBody, sIf_eq, tOrM_eq, eSl, small, eMut, isLst, fnM, fin, outsOf, argS, sRet, sRetN, sSeq, sSet, sOwn, sStore, setV, setO, sItem, itemK, sExpr, sSkip, eOp2, op2, oIx, oGt, oLt, oGe, oLe, oDiv, oMod, oMul, oAdd, oSub, oPow, o2I, o2C, eLst, eTup, lCons, lNil, eFn, eVar, eC, Za.eV, eB, frz, cont, conts, vals, Za.tB, Za.tTr, truth, isMut, putMut, storable, setAt, mineD, mutD, reD, retR, bName, bTup, bAll, ePart, oSl, partD, fInt, fLen, fList, or_ite, wrongAt, oIn, seqD, cut_to, any_ints', flat_int, flats_ints, -List.map_take, cast_le12, at_int xs p h]
theorem wr_loop (xs : List Int) : ∀ (n p : Nat) (s1 : Slot), free s1 → p + n = xs.length → ∃ t1, free t1 ∧ forL (fun _ => true) (bName 1) wrBody (rngD (p : Int) n) [.val (.lst (xs.map D.int)), s1] = retO (wrS xs p (xs.drop p)) [.val (.lst (xs.map D.int)), t1] := by
  intro n
  induction n with
  | zero =>
    intro p s1 f1 hn
    refine ⟨s1, f1, ?_⟩
    rw [List.drop_eq_nil_of_le (by omega)]
    rfl
  | succ n ih =>
    intro p s1 f1 hn
    have hp : p < xs.length := by omega
    have hb : bName 1 (.int (p : Int)) [.val (.lst (xs.map D.int)), s1] = some [.val (.lst (xs.map D.int)), .val (.int p)] := by
      rcases f1 with rfl | ⟨d1, rfl⟩ <;> simp [eSl, small, eMut, isLst, fnM, fin, outsOf, argS, sRet, sRetN, sSeq, sSet, sOwn, sStore, setV, setO, sItem, itemK, sExpr, sIf, sSkip, eOp2, op2, oIx, oGt, oLt, oGe, oLe, oDiv, oMod, oMul, oAdd, oSub, oPow, o2I, o2C, eLst, eTup, lCons, lNil, eFn, eVar, eC, Za.eV, eB, frz, cont, conts, vals, Za.tB, Za.tTr, truth, isMut, putMut, storable, setAt, mineD, mutD, reD, retR, bName, bTup, bAll, ePart, oSl, partD, fInt, fLen, fList]
    rw [rngD_succ, List.drop_eq_getElem_cons hp]
    unfold wrS
    by_cases h : wrongAt xs p xs[p] = true
    · refine ⟨.val (.int p), .inr ⟨_, rfl⟩, (forL_ret _ _ _ _ _ hb (by rw [wr_body xs p hp, if_pos h])).trans ?_⟩
      rw [if_pos h]
      rfl
    · obtain ⟨t1, g1, e⟩ := ih (p + 1) (.val (.int p)) (.inr ⟨_, rfl⟩) (by omega)
      refine ⟨t1, g1, (forL_cons _ _ _ _ _ hb (by rw [wr_body xs p hp, if_neg h]) rfl).trans ?_⟩
      rw [if_neg h]
      exact e
theorem law_wrong_eq (xs : List Int) (hl : xs.length ≤ 1000) : F_law_wrong [.v (.lst (xs.map D.int))] = .ok (optD (wr xs)) false [] := by
  obtain ⟨t1, _, e⟩ := wr_loop xs xs.length 0 .emp (.inl rfl) (by omega)
  have hi : iRng (lCons (eFn fLen (lCons (eVar 0) lNil)) lNil) [.val (.lst (xs.map D.int)), .emp] = .ok (rngD 0 xs.length) none [.val (.lst (xs.map D.int)), .emp] :=
    rng1 (lCons1 (a := .v (.int (xs.length : Int))) (by simp [eSl, small, eMut, isLst, fnM, fin, outsOf, argS, sRet, sRetN, sSeq, sSet, sOwn, sStore, setV, setO, sItem, itemK, sExpr, sIf, sSkip, eOp2, op2, oIx, oGt, oLt, oGe, oLe, oDiv, oMod, oMul, oAdd, oSub, oPow, o2I, o2C, eLst, eTup, lCons, lNil, eFn, eVar, eC, Za.eV, eB, frz, cont, conts, vals, Za.tB, Za.tTr, truth, isMut, putMut, storable, setAt, mineD, mutD, reD, retR, bName, bTup, bAll, ePart, oSl, partD, fInt, fLen, fList])) hl
  have hm : m_law_wrong = sSeq (sFor (iRng (lCons (eFn fLen (lCons (eVar 0) lNil)) lNil)) (bName 1) wrBody) (sRet (eC .non)) := rfl
  have h : m_law_wrong [.val (.lst (xs.map D.int)), .emp] = seqR (retO (wr xs) [.val (.lst (xs.map D.int)), t1]) (sRet (eC .non)) := by
    rw [hm, sSeq_eq, sFor_none hi]
    exact congrArg (fun r => seqR r (sRet (eC .non))) e
  unfold F_law_wrong
  refine (fnM_eq (n := 2) (args := [.v (.lst (xs.map D.int))]) (sl := [.val (.lst (xs.map D.int)), .emp]) rfl h).trans ?_
  cases wr xs <;> rfl
theorem check_list_eq (xs : List Int) : Fcheck_list [.v (.lst (xs.map D.int))] = match wr xs with | none => .ok .non false [] | some p => .err 1 [Str.ofString "place"] [.int (p : Int)] [] := by
  cases h : wr xs with
  | none => simp [Fcheck_list, mcheck_list, eSl, small, eMut, isLst, fnM, fin, outsOf, argS, sRet, sRetN, sSeq, sSet, sOwn, sStore, setV, setO, sItem, itemK, sExpr, sSkip, eOp2, op2, oIx, oGt, oLt, oGe, oLe, oDiv, oMod, oMul, oAdd, oSub, oPow, o2I, o2C, eLst, eTup, lCons, lNil, eFn, eVar, eC, Za.eV, eB, frz, cont, conts, vals, Za.tB, Za.tTr, truth, isMut, putMut, storable, setAt, mineD, mutD, reD, retR, bName, bTup, bAll, ePart, oSl, partD, fInt, fLen, fList, sIf_eq, eCall, mkArgs, first_wrong_place_eq, h, optD, callR, wb, okRet, oNotN, Za.isNon]
  | some p => simp [Fcheck_list, mcheck_list, eSl, small, eMut, isLst, fnM, fin, outsOf, argS, sRet, sRetN, sSeq, sSet, sOwn, sStore, setV, setO, sItem, itemK, sExpr, sSkip, eOp2, op2, oIx, oGt, oLt, oGe, oLe, oDiv, oMod, oMul, oAdd, oSub, oPow, o2I, o2C, eLst, eTup, lCons, lNil, eFn, eVar, eC, Za.eV, eB, frz, cont, conts, vals, Za.tB, Za.tTr, truth, isMut, putMut, storable, setAt, mineD, mutD, reD, retR, bName, bTup, bAll, ePart, oSl, partD, fInt, fLen, fList, sIf_eq, eCall, mkArgs, first_wrong_place_eq, h, optD, callR, wb, okRet, oNotN, Za.isNon, sRaise]
theorem wrS_none {xs : List Int} : ∀ (ds : List Int) (p : Nat), wrS xs p ds = none → ∀ i (h : i < ds.length), wrongAt xs (p + i) ds[i] = false := by
  intro ds
  induction ds with
  | nil => intro p _ i h; simp at h
  | cons k ds ih =>
    intro p h i hi
    unfold wrS at h
    split at h
    · cases h
    · rename_i hk
      cases i with
      | zero => simpa using hk
      | succ i => have := ih (p + 1) h i (by simpa using hi); rw [show p + (i + 1) = p + 1 + i by omega]; simpa using this
/-- a list that is not wrong -/
structure Fine (xs : List Int) : Prop where
  len : xs.length ≤ 12
  nd : xs.Nodup
theorem wr_none {xs : List Int} (h : wr xs = none) : Fine xs := by
  have q := wrS_none xs 0 h
  refine ⟨?_, ?_⟩
  · by_cases hl : xs.length ≤ 12
    · exact hl
    · have := q 12 (by omega)
      simp [wrongAt] at this
  · rw [List.nodup_iff_pairwise_ne, List.pairwise_iff_getElem]
    intro i j hi hj hij e
    have := q j hj
    simp [wrongAt] at this
    refine this.2.2.2 ?_
    rw [List.mem_take_iff_getElem]
    exact ⟨i, by omega, e⟩
end Zk06
end
section
set_option linter.all false
set_option maxRecDepth 10000
namespace Zk06
open PySem PySem.Spec PyProof.Rows L2 Za
abbrev LL (xs : List Int) : D := .lst (xs.map D.int)
theorem most1000 {n : Nat} (h : n ≤ 1000) : (n ≤ most) = True := eq_true (le_most h)
/-- [f x for x in xs if p x] -/
theorem lcL_eq {α : Type} {vs : List Nat} {b : BM} {t : TM} {m : EM} {sl : List Za.Slot} (g : α → D) (s1 : α → List Za.Slot) (p : α → Bool) (f : α → D) : ∀ (ks : List α), (∀ k ∈ ks, b (g k) sl = some (s1 k) ∧ t (s1 k) = .ok (p k) (s1 k) ∧ (p k = true → ∃ a, m (s1 k) = .ok a (s1 k) ∧ frz a = .v (f k)) ∧ wipeS vs (s1 k) = sl) → ∀ acc : List D, acc.length + ks.length ≤ 1000 →
    lcL (fun _ => true) vs b t m (ks.map g) acc sl = some (acc ++ (ks.filter p).map f, sl) := by
  intro ks
  induction ks with
  | nil => intro _ acc _; simp [lcL]
  | cons k ks ih =>
    intro h acc hl
    obtain ⟨h1, h2, h3, h4⟩ := h k List.mem_cons_self
    have ih' := ih fun j hj => h j (List.mem_cons_of_mem _ hj)
    rw [List.map_cons]
    unfold lcL
    rw [h1]
    simp only [h2]
    cases hp : p k with
    | false =>
      rw [List.filter_cons_of_neg (by simp [hp])]
      simp only [h4, if_true]
      exact ih' acc (by simp at hl; omega)
    | true =>
      obtain ⟨a, h5, h6⟩ := h3 hp
      rw [List.filter_cons_of_pos hp]
      simp only [h4, h5, h6, Bool.true_and]
      rw [if_pos (decide_eq_true (le_most (by simp at hl; omega)))]
      rw [ih' (acc ++ [f k]) (by simp at hl ⊢; omega), List.map_cons, List.append_assoc]
      rfl
theorem eLc_eq {α : Type} {im : IM} {vs : List Nat} {b : BM} {t : TM} {m : EM} {sl : List Za.Slot} (g : α → D) (s1 : α → List Za.Slot) (p : α → Bool) (f : α → D) (ks : List α) (hi : im sl = .ok (ks.map g) none sl) (he : emps vs sl = true) (h : ∀ k ∈ ks, b (g k) sl = some (s1 k) ∧ t (s1 k) = .ok (p k) (s1 k) ∧ (p k = true → ∃ a, m (s1 k) = .ok a (s1 k) ∧ frz a = .v (f k)) ∧ wipeS vs (s1 k) = sl) (hl : ks.length ≤ 1000) :
    eLc im vs b t m sl = .ok (.n (.lst ((ks.filter p).map f))) sl := by
  unfold eLc withLk
  rw [hi]
  simp only [lcRun, he, if_true]
  rw [lcL_eq g s1 p f ks h [] (by simpa using hl)]
  simp only [he, if_true, List.nil_append]
theorem check_like_keys_eq (a b : List Int) (ha : a.length < 16) (hb : b.length < 16) : Fcheck_like_keys [.v (LL a), .v (LL b)] = match symI a b with | [] => .ok .non false [] | k :: _ => .err 2 [Str.ofString "key"] [.int k] [] := by
  cases h : symI a b with
  | nil => simp [Fcheck_like_keys, mcheck_like_keys, eSl, small, eMut, isLst, fnM, fin, outsOf, argS, sRet, sRetN, sSeq, sSet, sOwn, sStore, setV, setO, sItem, itemK, sExpr, sSkip, eOp2, op2, oIx, oGt, oLt, oGe, oLe, oDiv, oMod, oMul, oAdd, oSub, oPow, o2I, o2C, eLst, eTup, lCons, lNil, eFn, eVar, eC, Za.eV, eB, frz, cont, conts, vals, Za.tB, Za.tTr, truth, isMut, putMut, storable, setAt, mineD, mutD, reD, retR, bName, bTup, bAll, ePart, oSl, partD, fInt, fLen, fList, eCall, mkArgs, callR, wb, okRet, okErr, sIf_eq, tOrM_eq, tAndM_eq, or_ite, and_ite, eAndV_eq, tNotM, eNotV, oNotN, oIsN, Za.isNon, sRaise, oIn, seqD, flat_int, flats_ints, mst1, mst2, mst3, mst4, eXor, slotInts, intsD_map, ha, hb, h]
  | cons k r => simp [Fcheck_like_keys, mcheck_like_keys, eSl, small, eMut, isLst, fnM, fin, outsOf, argS, sRet, sRetN, sSeq, sSet, sOwn, sStore, setV, setO, sItem, itemK, sExpr, sSkip, eOp2, op2, oIx, oGt, oLt, oGe, oLe, oDiv, oMod, oMul, oAdd, oSub, oPow, o2I, o2C, eLst, eTup, lCons, lNil, eFn, eVar, eC, Za.eV, eB, frz, cont, conts, vals, Za.tB, Za.tTr, truth, isMut, putMut, storable, setAt, mineD, mutD, reD, retR, bName, bTup, bAll, ePart, oSl, partD, fInt, fLen, fList, eCall, mkArgs, callR, wb, okRet, okErr, sIf_eq, tOrM_eq, tAndM_eq, or_ite, and_ite, eAndV_eq, tNotM, eNotV, oNotN, oIsN, Za.isNon, sRaise, oIn, seqD, flat_int, flats_ints, mst1, mst2, mst3, mst4, eXor, slotInts, intsD_map, ha, hb, h, atI, ixN]
/-- class, field, value of the error that two lists are refused with -/
def chk2 (a b : List Int) : Option (Nat × String × Int) := match wr a with
  | some p => some (1, "place", (p : Int))
  | none => match wr b with
    | some p => some (1, "place", (p : Int))
    | none => match symI a b with
      | [] => none
      | k :: _ => some (2, "key", k)
theorem check_two_lists_eq (a b : List Int) : Fcheck_two_lists [.v (LL a), .v (LL b)] = match chk2 a b with | none => .ok .non false [] | some (c, f, k) => .err c [Str.ofString f] [.int k] [] := by
  unfold chk2
  cases ha : wr a with
  | some p => simp [Fcheck_two_lists, mcheck_two_lists, eSl, small, eMut, isLst, fnM, fin, outsOf, argS, sRet, sRetN, sSeq, sSet, sOwn, sStore, setV, setO, sItem, itemK, sExpr, sSkip, eOp2, op2, oIx, oGt, oLt, oGe, oLe, oDiv, oMod, oMul, oAdd, oSub, oPow, o2I, o2C, eLst, eTup, lCons, lNil, eFn, eVar, eC, Za.eV, eB, frz, cont, conts, vals, Za.tB, Za.tTr, truth, isMut, putMut, storable, setAt, mineD, mutD, reD, retR, bName, bTup, bAll, ePart, oSl, partD, fInt, fLen, fList, eCall, mkArgs, callR, wb, okRet, okErr, sIf_eq, tOrM_eq, tAndM_eq, or_ite, and_ite, eAndV_eq, tNotM, eNotV, oNotN, oIsN, Za.isNon, sRaise, oIn, seqD, flat_int, flats_ints, mst1, mst2, mst3, mst4, check_list_eq, ha]
  | none =>
    have fa := wr_none ha
    cases hb : wr b with
    | some p => simp [Fcheck_two_lists, mcheck_two_lists, eSl, small, eMut, isLst, fnM, fin, outsOf, argS, sRet, sRetN, sSeq, sSet, sOwn, sStore, setV, setO, sItem, itemK, sExpr, sSkip, eOp2, op2, oIx, oGt, oLt, oGe, oLe, oDiv, oMod, oMul, oAdd, oSub, oPow, o2I, o2C, eLst, eTup, lCons, lNil, eFn, eVar, eC, Za.eV, eB, frz, cont, conts, vals, Za.tB, Za.tTr, truth, isMut, putMut, storable, setAt, mineD, mutD, reD, retR, bName, bTup, bAll, ePart, oSl, partD, fInt, fLen, fList, eCall, mkArgs, callR, wb, okRet, okErr, sIf_eq, tOrM_eq, tAndM_eq, or_ite, and_ite, eAndV_eq, tNotM, eNotV, oNotN, oIsN, Za.isNon, sRaise, oIn, seqD, flat_int, flats_ints, mst1, mst2, mst3, mst4, check_list_eq, ha, hb]
    | none =>
      have fb := wr_none hb
      have e := check_like_keys_eq a b (by have := fa.len; omega) (by have := fb.len; omega)
      cases hs : symI a b with
      | nil => rw [hs] at e; simp [Fcheck_two_lists, mcheck_two_lists, eSl, small, eMut, isLst, fnM, fin, outsOf, argS, sRet, sRetN, sSeq, sSet, sOwn, sStore, setV, setO, sItem, itemK, sExpr, sSkip, eOp2, op2, oIx, oGt, oLt, oGe, oLe, oDiv, oMod, oMul, oAdd, oSub, oPow, o2I, o2C, eLst, eTup, lCons, lNil, eFn, eVar, eC, Za.eV, eB, frz, cont, conts, vals, Za.tB, Za.tTr, truth, isMut, putMut, storable, setAt, mineD, mutD, reD, retR, bName, bTup, bAll, ePart, oSl, partD, fInt, fLen, fList, eCall, mkArgs, callR, wb, okRet, okErr, sIf_eq, tOrM_eq, tAndM_eq, or_ite, and_ite, eAndV_eq, tNotM, eNotV, oNotN, oIsN, Za.isNon, sRaise, oIn, seqD, flat_int, flats_ints, mst1, mst2, mst3, mst4, check_list_eq, ha, hb, e]
      | cons k r => rw [hs] at e; simp [Fcheck_two_lists, mcheck_two_lists, eSl, small, eMut, isLst, fnM, fin, outsOf, argS, sRet, sRetN, sSeq, sSet, sOwn, sStore, setV, setO, sItem, itemK, sExpr, sSkip, eOp2, op2, oIx, oGt, oLt, oGe, oLe, oDiv, oMod, oMul, oAdd, oSub, oPow, o2I, o2C, eLst, eTup, lCons, lNil, eFn, eVar, eC, Za.eV, eB, frz, cont, conts, vals, Za.tB, Za.tTr, truth, isMut, putMut, storable, setAt, mineD, mutD, reD, retR, bName, bTup, bAll, ePart, oSl, partD, fInt, fLen, fList, eCall, mkArgs, callR, wb, okRet, okErr, sIf_eq, tOrM_eq, tAndM_eq, or_ite, and_ite, eAndV_eq, tNotM, eNotV, oNotN, oIsN, Za.isNon, sRaise, oIn, seqD, flat_int, flats_ints, mst1, mst2, mst3, mst4, check_list_eq, ha, hb, e]
theorem minI_symI (a b : List Int) (k : Int) (r : List Int) (h : symI a b = k :: r) : a.filter (fun k => !b.contains k) ++ b.filter (fun k => !a.contains k) ≠ [] ∧ minI (a.filter (fun k => !b.contains k) ++ b.filter (fun k => !a.contains k)) = k := by
  have hm : ∀ x, x ∈ symI a b ↔ x ∈ a.filter (fun k => !b.contains k) ++ b.filter (fun k => !a.contains k) := by intro x; rw [mem_symI]; simp
  have hk : k ∈ a.filter (fun k => !b.contains k) ++ b.filter (fun k => !a.contains k) := (hm k).mp (by rw [h]; exact List.mem_cons_self)
  refine ⟨List.ne_nil_of_mem hk, (minI_uniq hk fun y hy => ?_).symm⟩
  have := (hm y).mpr hy
  rw [h] at this
  have hs := symI_strict a b
  rw [h, List.pairwise_cons] at hs
  rcases List.mem_cons.mp this with e | e
  · omega
  · have := hs.1 y e; omega
def headD (l : List Int) : D := match l with
  | [] => .non
  | k :: _ => .int k
theorem notin_eq (xs : List Int) (k : Int) : (xs.map D.int).any (fun y => eqv y (.int k)) = xs.contains k := by
  rw [any_ints]; simp
theorem law_unlike_eq (a b : List Int) (ha : a.length ≤ 1000) (hb : b.length ≤ 1000) : F_law_unlike [.v (LL a), .v (LL b)] = .ok (headD (symI a b)) false [] := by
  have e1 : eLc (iLst (eVar 0)) [4] (bName 4) (tB (eOp2 (oIn true) (eVar 4) (eVar 1))) (eVar 4) [.val (LL a), .val (LL b), .emp, .emp, .emp] = .ok (.n (.lst ((a.filter (fun k => !b.contains k)).map D.int))) [.val (LL a), .val (LL b), .emp, .emp, .emp] := by
    refine eLc_eq D.int (fun k => [.val (LL a), .val (LL b), .emp, .emp, .val (.int k)]) _ _ a rfl rfl (fun k _ => ⟨rfl, ?_, fun _ => ⟨.v (.int k), rfl, rfl⟩, rfl⟩) ha
    simp [eSl, small, eMut, isLst, fnM, fin, outsOf, argS, sRet, sRetN, sSeq, sSet, sOwn, sStore, setV, setO, sItem, itemK, sExpr, sSkip, eOp2, op2, oIx, oGt, oLt, oGe, oLe, oDiv, oMod, oMul, oAdd, oSub, oPow, o2I, o2C, eLst, eTup, lCons, lNil, eFn, eVar, eC, Za.eV, eB, frz, cont, conts, vals, Za.tB, Za.tTr, truth, isMut, putMut, storable, setAt, mineD, mutD, reD, retR, bName, bTup, bAll, ePart, oSl, partD, fInt, fLen, fList, eCall, mkArgs, callR, wb, okRet, okErr, sIf_eq, tOrM_eq, tAndM_eq, or_ite, and_ite, eAndV_eq, tNotM, eNotV, oNotN, oIsN, Za.isNon, sRaise, oIn, seqD, flat_int, flats_ints, mst1, mst2, mst3, mst4, any_ints']
  have e2 : ∀ d : D, eLc (iLst (eVar 1)) [4] (bName 4) (tB (eOp2 (oIn true) (eVar 4) (eVar 0))) (eVar 4) [.val (LL a), .val (LL b), .val d, .emp, .emp] = .ok (.n (.lst ((b.filter (fun k => !a.contains k)).map D.int))) [.val (LL a), .val (LL b), .val d, .emp, .emp] := by
    intro d
    refine eLc_eq D.int (fun k => [.val (LL a), .val (LL b), .val d, .emp, .val (.int k)]) _ _ b rfl rfl (fun k _ => ⟨rfl, ?_, fun _ => ⟨.v (.int k), rfl, rfl⟩, rfl⟩) hb
    simp [eSl, small, eMut, isLst, fnM, fin, outsOf, argS, sRet, sRetN, sSeq, sSet, sOwn, sStore, setV, setO, sItem, itemK, sExpr, sSkip, eOp2, op2, oIx, oGt, oLt, oGe, oLe, oDiv, oMod, oMul, oAdd, oSub, oPow, o2I, o2C, eLst, eTup, lCons, lNil, eFn, eVar, eC, Za.eV, eB, frz, cont, conts, vals, Za.tB, Za.tTr, truth, isMut, putMut, storable, setAt, mineD, mutD, reD, retR, bName, bTup, bAll, ePart, oSl, partD, fInt, fLen, fList, eCall, mkArgs, callR, wb, okRet, okErr, sIf_eq, tOrM_eq, tAndM_eq, or_ite, and_ite, eAndV_eq, tNotM, eNotV, oNotN, oIsN, Za.isNon, sRaise, oIn, seqD, flat_int, flats_ints, mst1, mst2, mst3, mst4, any_ints']
  have la : (a.filter (fun k => !b.contains k)).length ≤ 1000 := Nat.le_trans (List.length_filter_le _ _) ha
  have lb : (b.filter (fun k => !a.contains k)).length ≤ 1000 := Nat.le_trans (List.length_filter_le _ _) hb
  have hm := most1000 (n := (a.filter (fun k => !b.contains k)).length) la
  generalize hA : a.filter (fun k => !b.contains k) = A at *
  generalize hB : b.filter (fun k => !a.contains k) = B at *
  have hAB : A.length + B.length ≤ most := Nat.le_trans (Nat.add_le_add la lb) (by decide)
  unfold LL at *
  unfold F_law_unlike m_law_unlike
  generalize eLc (iLst (eVar 0)) [4] (bName 4) (Za.tB (eOp2 (oIn true) (eVar 4) (eVar 1))) (eVar 4) = E1 at *
  generalize eLc (iLst (eVar 1)) [4] (bName 4) (Za.tB (eOp2 (oIn true) (eVar 4) (eVar 0))) (eVar 4) = E2 at *
  cases h : symI a b with
  | nil =>
    have hn : A ++ B = [] := by
      rw [List.eq_nil_iff_forall_not_mem]
      intro x hx
      have : x ∈ symI a b := by rw [mem_symI]; rw [← hA, ← hB] at hx; simpa using hx
      rw [h] at this; cases this
    obtain ⟨h1, h2⟩ := List.append_eq_nil_iff.mp hn
    subst A
    subst B
    simp only [h1, h2, List.map_nil] at e1 e2
    simp [eSl, small, eMut, isLst, fnM, fin, outsOf, argS, sRet, sRetN, sSeq, sSet, sOwn, sStore, setV, setO, sItem, itemK, sExpr, sSkip, eOp2, op2, oIx, oGt, oLt, oGe, oLe, oDiv, oMod, oMul, oAdd, oSub, oPow, o2I, o2C, eLst, eTup, lCons, lNil, eFn, eVar, eC, Za.eV, eB, frz, cont, conts, vals, Za.tB, Za.tTr, truth, isMut, putMut, storable, setAt, mineD, mutD, reD, retR, bName, bTup, bAll, ePart, oSl, partD, fInt, fLen, fList, eCall, mkArgs, callR, wb, okRet, okErr, sIf_eq, tOrM_eq, tAndM_eq, or_ite, and_ite, eAndV_eq, tNotM, eNotV, oNotN, oIsN, Za.isNon, sRaise, oIn, seqD, flat_int, flats_ints, mst1, mst2, mst3, mst4, e1, e2, headD]
  | cons k r =>
    obtain ⟨h1, h2⟩ := minI_symI a b k r h
    rw [hA, hB] at h1 h2
    have hI : intsD (List.map D.int A ++ List.map D.int B) = some (A ++ B) := by rw [← List.map_append]; exact intsD_map _
    by_cases h3 : A = []
    · have h4 : ¬ B = [] := fun e => h1 (by rw [h3, e]; rfl)
      rw [h3] at hI hAB e1 h2
      simp at hI hAB h2
      simp [eSl, small, eMut, isLst, fnM, fin, outsOf, argS, sRet, sRetN, sSeq, sSet, sOwn, sStore, setV, setO, sItem, itemK, sExpr, sSkip, eOp2, op2, oIx, oGt, oLt, oGe, oLe, oDiv, oMod, oMul, oAdd, oSub, oPow, o2I, o2C, eLst, eTup, lCons, lNil, eFn, eVar, eC, Za.eV, eB, frz, cont, conts, vals, Za.tB, Za.tTr, truth, isMut, putMut, storable, setAt, mineD, mutD, reD, retR, bName, bTup, bAll, ePart, oSl, partD, fInt, fLen, fList, eCall, mkArgs, callR, wb, okRet, okErr, sIf_eq, tOrM_eq, tAndM_eq, or_ite, and_ite, eAndV_eq, tNotM, eNotV, oNotN, oIsN, Za.isNon, sRaise, oIn, seqD, flat_int, flats_ints, mst1, mst2, mst3, mst4, e1, e2, hAB, headD, fMin, hI, h2, h4]
    · simp [eSl, small, eMut, isLst, fnM, fin, outsOf, argS, sRet, sRetN, sSeq, sSet, sOwn, sStore, setV, setO, sItem, itemK, sExpr, sSkip, eOp2, op2, oIx, oGt, oLt, oGe, oLe, oDiv, oMod, oMul, oAdd, oSub, oPow, o2I, o2C, eLst, eTup, lCons, lNil, eFn, eVar, eC, Za.eV, eB, frz, cont, conts, vals, Za.tB, Za.tTr, truth, isMut, putMut, storable, setAt, mineD, mutD, reD, retR, bName, bTup, bAll, ePart, oSl, partD, fInt, fLen, fList, eCall, mkArgs, callR, wb, okRet, okErr, sIf_eq, tOrM_eq, tAndM_eq, or_ite, and_ite, eAndV_eq, tNotM, eNotV, oNotN, oIsN, Za.isNon, sRaise, oIn, seqD, flat_int, flats_ints, mst1, mst2, mst3, mst4, e1, e2, hAB, headD, fMin, hI, h3, h2]
end Zk06
end
section
set_option linter.all false
set_option maxRecDepth 10000
namespace Zk06
open PySem PySem.Spec PyProof.Rows L2 Za
abbrev SD (s : String) : D := .str (Str.ofString s)
theorem st1 : (Str.ofString "list" == Str.ofString "told") = false := by decide
theorem st2 : (Str.ofString "swap" == Str.ofString "told") = false := by decide
theorem st3 : (Str.ofString "unlike" == Str.ofString "told") = false := by decide
/-- does swap_at refuse the index -/
def offI (n : Nat) (i : Int) : Bool := decide (i < 0) || decide ((n : Int) - 2 < i)
def due (way : Int) (a b : List Int) (i : Int) : String × Int := match wr a with
  | some p => ("list", (p : Int))
  | none => if way = 1 ∧ offI a.length i = true then ("swap", 0) else if way < 2 then ("told", 0) else match wr b with
    | some p => ("list", (p : Int))
    | none => match symI a b with
      | k :: _ => ("unlike", k)
      | [] => ("told", 0)
theorem law_due_eq (way : Int) (a b : List Int) (i : Int) (ha : a.length ≤ 1000) (hb : b.length ≤ 1000) : F_law_due [.v (.int way), .v (LL a), .v (LL b), .v (.int i)] = .ok (.tup [SD (due way a b i).1, .int (due way a b i).2]) false [] := by
  unfold due F_law_due m_law_due
  have w1 := fun xs h => law_wrong_eq xs h
  have u1 := fun a b h1 h2 => law_unlike_eq a b h1 h2
  obtain ⟨W, hW⟩ : ∃ W, W = F_law_wrong := ⟨_, rfl⟩
  obtain ⟨U, hU⟩ : ∃ U, U = F_law_unlike := ⟨_, rfl⟩
  rw [← hW, ← hU]
  rw [← hW] at w1
  rw [← hU] at u1
  clear hW hU
  cases h1 : wr a with
  | some p => simp [fnM, fin, outsOf, argS, eB_r, eV_r, op2_r, eOp2_r, erO, erO2, erB, erV, opC, retR, cont, frz, mineD, tB_r, erT, trC, tTr_r, erTr, trE, trD, truth, tAndM_r, trA, tOrM_r, trO, tNotM_r, trN, eAndV_r, trAV, eOrV_r, trOV, eNotV_r, trNV, eIf_r, trIV, eVar_r, slV, slA, eC_r, lNil_r, lCons_r, erC, lrC, eFn_r, lrF, lrF2, conts, eTup_r, lrT, lrT2, vals, eLst_r, lrL, lrL2, sSeq_r, srQ, sExpr_r, erE, sRet_r, erR, sSkip_r, sRetN_r, sIf_r, trI, sStore_r, erS, sSet_r, sOwn_r, sSetX_r, setX, setO, setV_r, avV, storable, eCall_r, lrK, mkK, mkArgs, callR, wb, okRet, okErr, sRaise_r, erX, ePart_none, ePart_some, erP, slI, eSl_r, erSl, slK_r, slK2_r, cutC, oSl, isMut, putMut, setAt, mutD, reD, sItem, itemK, bName, bTup, bAll, fLen, fInt, fList, oIx, oGt, oLt, oGe, oLe, oDiv, oMod, oMul, oAdd, oSub, oPow, o2I, o2C, small, isLst, oNotN, oIsN, Za.isNon, oIn, seqD, flat_int, flats_ints, mst1, mst2, mst3, mst4, or_ite, and_ite, eKid_r, slKd, kdV, flat_str, flat_bl, flat_non, flat_ints, eqv_ints, eqvs_ints, setX, noAl, w1, ha, hb, h1, optD]
  | none =>
    by_cases h2 : way = 1
    · subst way
      by_cases h3 : offI a.length i = true
      · have h3' := h3
        simp [offI] at h3'
        simp [fnM, fin, outsOf, argS, eB_r, eV_r, op2_r, eOp2_r, erO, erO2, erB, erV, opC, retR, cont, frz, mineD, tB_r, erT, trC, tTr_r, erTr, trE, trD, truth, tAndM_r, trA, tOrM_r, trO, tNotM_r, trN, eAndV_r, trAV, eOrV_r, trOV, eNotV_r, trNV, eIf_r, trIV, eVar_r, slV, slA, eC_r, lNil_r, lCons_r, erC, lrC, eFn_r, lrF, lrF2, conts, eTup_r, lrT, lrT2, vals, eLst_r, lrL, lrL2, sSeq_r, srQ, sExpr_r, erE, sRet_r, erR, sSkip_r, sRetN_r, sIf_r, trI, sStore_r, erS, sSet_r, sOwn_r, sSetX_r, setX, setO, setV_r, avV, storable, eCall_r, lrK, mkK, mkArgs, callR, wb, okRet, okErr, sRaise_r, erX, ePart_none, ePart_some, erP, slI, eSl_r, erSl, slK_r, slK2_r, cutC, oSl, isMut, putMut, setAt, mutD, reD, sItem, itemK, bName, bTup, bAll, fLen, fInt, fList, oIx, oGt, oLt, oGe, oLe, oDiv, oMod, oMul, oAdd, oSub, oPow, o2I, o2C, small, isLst, oNotN, oIsN, Za.isNon, oIn, seqD, flat_int, flats_ints, mst1, mst2, mst3, mst4, or_ite, and_ite, eKid_r, slKd, kdV, flat_str, flat_bl, flat_non, flat_ints, eqv_ints, eqvs_ints, setX, noAl, w1, ha, hb, h1, optD, oEq, eqv, h3', h3]
      · have h3' := h3
        simp [offI] at h3'
        have h4 : ¬ i < 0 := by omega
        have h5 : ¬ (a.length : Int) - 2 < i := by omega
        simp [fnM, fin, outsOf, argS, eB_r, eV_r, op2_r, eOp2_r, erO, erO2, erB, erV, opC, retR, cont, frz, mineD, tB_r, erT, trC, tTr_r, erTr, trE, trD, truth, tAndM_r, trA, tOrM_r, trO, tNotM_r, trN, eAndV_r, trAV, eOrV_r, trOV, eNotV_r, trNV, eIf_r, trIV, eVar_r, slV, slA, eC_r, lNil_r, lCons_r, erC, lrC, eFn_r, lrF, lrF2, conts, eTup_r, lrT, lrT2, vals, eLst_r, lrL, lrL2, sSeq_r, srQ, sExpr_r, erE, sRet_r, erR, sSkip_r, sRetN_r, sIf_r, trI, sStore_r, erS, sSet_r, sOwn_r, sSetX_r, setX, setO, setV_r, avV, storable, eCall_r, lrK, mkK, mkArgs, callR, wb, okRet, okErr, sRaise_r, erX, ePart_none, ePart_some, erP, slI, eSl_r, erSl, slK_r, slK2_r, cutC, oSl, isMut, putMut, setAt, mutD, reD, sItem, itemK, bName, bTup, bAll, fLen, fInt, fList, oIx, oGt, oLt, oGe, oLe, oDiv, oMod, oMul, oAdd, oSub, oPow, o2I, o2C, small, isLst, oNotN, oIsN, Za.isNon, oIn, seqD, flat_int, flats_ints, mst1, mst2, mst3, mst4, or_ite, and_ite, eKid_r, slKd, kdV, flat_str, flat_bl, flat_non, flat_ints, eqv_ints, eqvs_ints, setX, noAl, w1, ha, hb, h1, optD, oEq, eqv, h4, h5, h3]
    · by_cases h3 : way < 2
      · simp [fnM, fin, outsOf, argS, eB_r, eV_r, op2_r, eOp2_r, erO, erO2, erB, erV, opC, retR, cont, frz, mineD, tB_r, erT, trC, tTr_r, erTr, trE, trD, truth, tAndM_r, trA, tOrM_r, trO, tNotM_r, trN, eAndV_r, trAV, eOrV_r, trOV, eNotV_r, trNV, eIf_r, trIV, eVar_r, slV, slA, eC_r, lNil_r, lCons_r, erC, lrC, eFn_r, lrF, lrF2, conts, eTup_r, lrT, lrT2, vals, eLst_r, lrL, lrL2, sSeq_r, srQ, sExpr_r, erE, sRet_r, erR, sSkip_r, sRetN_r, sIf_r, trI, sStore_r, erS, sSet_r, sOwn_r, sSetX_r, setX, setO, setV_r, avV, storable, eCall_r, lrK, mkK, mkArgs, callR, wb, okRet, okErr, sRaise_r, erX, ePart_none, ePart_some, erP, slI, eSl_r, erSl, slK_r, slK2_r, cutC, oSl, isMut, putMut, setAt, mutD, reD, sItem, itemK, bName, bTup, bAll, fLen, fInt, fList, oIx, oGt, oLt, oGe, oLe, oDiv, oMod, oMul, oAdd, oSub, oPow, o2I, o2C, small, isLst, oNotN, oIsN, Za.isNon, oIn, seqD, flat_int, flats_ints, mst1, mst2, mst3, mst4, or_ite, and_ite, eKid_r, slKd, kdV, flat_str, flat_bl, flat_non, flat_ints, eqv_ints, eqvs_ints, setX, noAl, w1, ha, hb, h1, optD, oEq, eqv, h2, h3]
      · cases h4 : wr b with
        | some p => simp [fnM, fin, outsOf, argS, eB_r, eV_r, op2_r, eOp2_r, erO, erO2, erB, erV, opC, retR, cont, frz, mineD, tB_r, erT, trC, tTr_r, erTr, trE, trD, truth, tAndM_r, trA, tOrM_r, trO, tNotM_r, trN, eAndV_r, trAV, eOrV_r, trOV, eNotV_r, trNV, eIf_r, trIV, eVar_r, slV, slA, eC_r, lNil_r, lCons_r, erC, lrC, eFn_r, lrF, lrF2, conts, eTup_r, lrT, lrT2, vals, eLst_r, lrL, lrL2, sSeq_r, srQ, sExpr_r, erE, sRet_r, erR, sSkip_r, sRetN_r, sIf_r, trI, sStore_r, erS, sSet_r, sOwn_r, sSetX_r, setX, setO, setV_r, avV, storable, eCall_r, lrK, mkK, mkArgs, callR, wb, okRet, okErr, sRaise_r, erX, ePart_none, ePart_some, erP, slI, eSl_r, erSl, slK_r, slK2_r, cutC, oSl, isMut, putMut, setAt, mutD, reD, sItem, itemK, bName, bTup, bAll, fLen, fInt, fList, oIx, oGt, oLt, oGe, oLe, oDiv, oMod, oMul, oAdd, oSub, oPow, o2I, o2C, small, isLst, oNotN, oIsN, Za.isNon, oIn, seqD, flat_int, flats_ints, mst1, mst2, mst3, mst4, or_ite, and_ite, eKid_r, slKd, kdV, flat_str, flat_bl, flat_non, flat_ints, eqv_ints, eqvs_ints, setX, noAl, w1, ha, hb, h1, optD, oEq, eqv, h2, h3, h4]
        | none =>
          cases h5 : symI a b with
          | nil => simp [fnM, fin, outsOf, argS, eB_r, eV_r, op2_r, eOp2_r, erO, erO2, erB, erV, opC, retR, cont, frz, mineD, tB_r, erT, trC, tTr_r, erTr, trE, trD, truth, tAndM_r, trA, tOrM_r, trO, tNotM_r, trN, eAndV_r, trAV, eOrV_r, trOV, eNotV_r, trNV, eIf_r, trIV, eVar_r, slV, slA, eC_r, lNil_r, lCons_r, erC, lrC, eFn_r, lrF, lrF2, conts, eTup_r, lrT, lrT2, vals, eLst_r, lrL, lrL2, sSeq_r, srQ, sExpr_r, erE, sRet_r, erR, sSkip_r, sRetN_r, sIf_r, trI, sStore_r, erS, sSet_r, sOwn_r, sSetX_r, setX, setO, setV_r, avV, storable, eCall_r, lrK, mkK, mkArgs, callR, wb, okRet, okErr, sRaise_r, erX, ePart_none, ePart_some, erP, slI, eSl_r, erSl, slK_r, slK2_r, cutC, oSl, isMut, putMut, setAt, mutD, reD, sItem, itemK, bName, bTup, bAll, fLen, fInt, fList, oIx, oGt, oLt, oGe, oLe, oDiv, oMod, oMul, oAdd, oSub, oPow, o2I, o2C, small, isLst, oNotN, oIsN, Za.isNon, oIn, seqD, flat_int, flats_ints, mst1, mst2, mst3, mst4, or_ite, and_ite, eKid_r, slKd, kdV, flat_str, flat_bl, flat_non, flat_ints, eqv_ints, eqvs_ints, setX, noAl, w1, u1, ha, hb, h1, optD, oEq, eqv, h2, h3, h4, h5, headD]
          | cons k r => simp [fnM, fin, outsOf, argS, eB_r, eV_r, op2_r, eOp2_r, erO, erO2, erB, erV, opC, retR, cont, frz, mineD, tB_r, erT, trC, tTr_r, erTr, trE, trD, truth, tAndM_r, trA, tOrM_r, trO, tNotM_r, trN, eAndV_r, trAV, eOrV_r, trOV, eNotV_r, trNV, eIf_r, trIV, eVar_r, slV, slA, eC_r, lNil_r, lCons_r, erC, lrC, eFn_r, lrF, lrF2, conts, eTup_r, lrT, lrT2, vals, eLst_r, lrL, lrL2, sSeq_r, srQ, sExpr_r, erE, sRet_r, erR, sSkip_r, sRetN_r, sIf_r, trI, sStore_r, erS, sSet_r, sOwn_r, sSetX_r, setX, setO, setV_r, avV, storable, eCall_r, lrK, mkK, mkArgs, callR, wb, okRet, okErr, sRaise_r, erX, ePart_none, ePart_some, erP, slI, eSl_r, erSl, slK_r, slK2_r, cutC, oSl, isMut, putMut, setAt, mutD, reD, sItem, itemK, bName, bTup, bAll, fLen, fInt, fList, oIx, oGt, oLt, oGe, oLe, oDiv, oMod, oMul, oAdd, oSub, oPow, o2I, o2C, small, isLst, oNotN, oIsN, Za.isNon, oIn, seqD, flat_int, flats_ints, mst1, mst2, mst3, mst4, or_ite, and_ite, eKid_r, slKd, kdV, flat_str, flat_bl, flat_non, flat_ints, eqv_ints, eqvs_ints, setX, noAl, w1, u1, ha, hb, h1, optD, oEq, eqv, h2, h3, h4, h5, headD]
/-! what the program is asked -/
def askBody : SM := (sIf (tB (eOp2 oEq (eVar 0) (eC (.int 0)))) (sSetX true 5 (eCall Fcheck_list [false] (lCons (eVar 1) (lNil)))) (sIf (tB (eOp2 oEq (eVar 0) (eC (.int 1)))) (sSetX true 5 (eCall Fswap_at [false, false] (lCons (eVar 1) (lCons (eVar 3) (lNil))))) (sIf (tB (eOp2 oEq (eVar 0) (eC (.int 2)))) (sSetX true 5 (eCall Fdiffering_pairs [false, false] (lCons (eVar 1) (lCons (eVar 2) (lNil))))) (sSetX true 5 (eCall Fstraight_swaps [false, false] (lCons (eVar 1) (lCons (eVar 2) (lNil))))))))
def askHs : List Hd := [⟨[(1, true), (2, false), (3, false)], some 4, sSeq (sSet 6 (eAndV (eXis 4 [(1, true), (2, true), (3, true)]) (eXis 4 [(1, true), (2, true), (3, true)])))
    (sSeq (sSet 6 (eAndV (eVar 6) (eAndV (eNotV (eXis 4 [(1, false), (2, true), (3, false)])) (eNotV (eXis 4 [(1, false), (2, false), (3, true)])))))
    (sRet (eTup (lCons (eC (.str (Str.ofString "list"))) (lCons (eXf 4 (Str.ofString "place") [1]) (lCons (eVar 6) (lNil)))))))⟩, ⟨[(1, false), (2, true), (3, false)], some 4, sSeq (sSet 6 (eAndV (eXis 4 [(1, true), (2, true), (3, true)]) (eXis 4 [(1, true), (2, true), (3, true)])))
    (sRet (eTup (lCons (eC (.str (Str.ofString "unlike"))) (lCons (eXf 4 (Str.ofString "key") [2]) (lCons (eAndV (eVar 6) (eNotV (eXis 4 [(1, false), (2, false), (3, true)]))) (lNil))))))⟩, ⟨[(1, false), (2, false), (3, true)], some 4, sRet (eTup (lCons (eC (.str (Str.ofString "swap"))) (lCons (eXf 4 (Str.ofString "step") [3]) (lCons (eAndV (eXis 4 [(1, true), (2, true), (3, true)]) (eXis 4 [(1, true), (2, true), (3, true)])) (lNil)))))⟩]
def askEnd : SM := (sRetM [5] (lCons (eC (.str (Str.ofString "told"))) (lCons (eVar 5) (lCons (eC (.bl true)) (lNil)))))
theorem ask_m : m_law_ask = sSeq (sTry askBody askHs) askEnd := rfl
abbrev askS (way : Int) (a b : List Int) (i : Int) : List Za.Slot := [.val (.int way), .val (LL a), .val (LL b), .val (.int i), .emp, .emp, .emp]
theorem lk1A : List.lookup 1 [(1, true), (2, true), (3, true)] = some true := rfl
theorem lk11 : List.lookup 1 [(1, true), (2, false), (3, false)] = some true := rfl
theorem lk12 : List.lookup 1 [(1, false), (2, true), (3, false)] = some false := rfl
theorem lk13 : List.lookup 1 [(1, false), (2, false), (3, true)] = some false := rfl
theorem lk2A : List.lookup 2 [(1, true), (2, true), (3, true)] = some true := rfl
theorem lk21 : List.lookup 2 [(1, true), (2, false), (3, false)] = some false := rfl
theorem lk22 : List.lookup 2 [(1, false), (2, true), (3, false)] = some true := rfl
theorem lk23 : List.lookup 2 [(1, false), (2, false), (3, true)] = some false := rfl
theorem lk3A : List.lookup 3 [(1, true), (2, true), (3, true)] = some true := rfl
theorem lk31 : List.lookup 3 [(1, true), (2, false), (3, false)] = some false := rfl
theorem lk32 : List.lookup 3 [(1, false), (2, true), (3, false)] = some false := rfl
theorem lk33 : List.lookup 3 [(1, false), (2, false), (3, true)] = some true := rfl
theorem ask_list (way : Int) (a b : List Int) (i k : Int) : pickH askHs 1 [Str.ofString "place"] [.int k] (askS way a b i) = .ret (.v (.tup [SD "list", .int k, .bl true])) [.val (.int way), .val (LL a), .val (LL b), .val (.int i), .emp, .emp, .val (.bl true)] := by
  simp [askHs, pickH, putX, eSl, small, eMut, isLst, fnM, fin, outsOf, argS, sRet, sRetN, sSeq, sSet, sOwn, sStore, setV, setO, sItem, itemK, sExpr, sSkip, eOp2, op2, oIx, oGt, oLt, oGe, oLe, oDiv, oMod, oMul, oAdd, oSub, oPow, o2I, o2C, eLst, eTup, lCons, lNil, eFn, eVar, eC, Za.eV, eB, frz, cont, conts, vals, Za.tB, Za.tTr, truth, isMut, putMut, storable, setAt, mineD, mutD, reD, retR, bName, bTup, bAll, ePart, oSl, partD, fInt, fLen, fList, eCall, mkArgs, callR, wb, okRet, okErr, sIf_eq, tOrM_eq, tAndM_eq, or_ite, and_ite, eAndV_eq, tNotM, eNotV, oNotN, oIsN, Za.isNon, sRaise, oIn, seqD, flat_int, flats_ints, mst1, mst2, mst3, mst4, eXis, eXf, endH, noExc, dropN, isExc, notS, lk1A, lk11, lk12, lk13, lk2A, lk21, lk22, lk23, lk3A, lk31, lk32, lk33]
theorem ask_unlike (way : Int) (a b : List Int) (i k : Int) : pickH askHs 2 [Str.ofString "key"] [.int k] (askS way a b i) = .ret (.v (.tup [SD "unlike", .int k, .bl true])) [.val (.int way), .val (LL a), .val (LL b), .val (.int i), .emp, .emp, .val (.bl true)] := by
  simp [askHs, pickH, putX, eSl, small, eMut, isLst, fnM, fin, outsOf, argS, sRet, sRetN, sSeq, sSet, sOwn, sStore, setV, setO, sItem, itemK, sExpr, sSkip, eOp2, op2, oIx, oGt, oLt, oGe, oLe, oDiv, oMod, oMul, oAdd, oSub, oPow, o2I, o2C, eLst, eTup, lCons, lNil, eFn, eVar, eC, Za.eV, eB, frz, cont, conts, vals, Za.tB, Za.tTr, truth, isMut, putMut, storable, setAt, mineD, mutD, reD, retR, bName, bTup, bAll, ePart, oSl, partD, fInt, fLen, fList, eCall, mkArgs, callR, wb, okRet, okErr, sIf_eq, tOrM_eq, tAndM_eq, or_ite, and_ite, eAndV_eq, tNotM, eNotV, oNotN, oIsN, Za.isNon, sRaise, oIn, seqD, flat_int, flats_ints, mst1, mst2, mst3, mst4, eXis, eXf, endH, noExc, dropN, isExc, notS, lk1A, lk11, lk12, lk13, lk2A, lk21, lk22, lk23, lk3A, lk31, lk32, lk33]
theorem ask_swap (way : Int) (a b : List Int) (i k : Int) : pickH askHs 3 [Str.ofString "step"] [.int k] (askS way a b i) = .ret (.v (.tup [SD "swap", .int k, .bl true])) [.val (.int way), .val (LL a), .val (LL b), .val (.int i), .emp, .emp, .emp] := by
  simp [askHs, pickH, putX, eSl, small, eMut, isLst, fnM, fin, outsOf, argS, sRet, sRetN, sSeq, sSet, sOwn, sStore, setV, setO, sItem, itemK, sExpr, sSkip, eOp2, op2, oIx, oGt, oLt, oGe, oLe, oDiv, oMod, oMul, oAdd, oSub, oPow, o2I, o2C, eLst, eTup, lCons, lNil, eFn, eVar, eC, Za.eV, eB, frz, cont, conts, vals, Za.tB, Za.tTr, truth, isMut, putMut, storable, setAt, mineD, mutD, reD, retR, bName, bTup, bAll, ePart, oSl, partD, fInt, fLen, fList, eCall, mkArgs, callR, wb, okRet, okErr, sIf_eq, tOrM_eq, tAndM_eq, or_ite, and_ite, eAndV_eq, tNotM, eNotV, oNotN, oIsN, Za.isNon, sRaise, oIn, seqD, flat_int, flats_ints, mst1, mst2, mst3, mst4, eXis, eXf, endH, noExc, dropN, isExc, notS, lk1A, lk11, lk12, lk13, lk2A, lk21, lk22, lk23, lk3A, lk31, lk32, lk33]
theorem try_err {mb : SM} {hs : List Hd} {sl sl' : List Za.Slot} {c : Nat} {ns : List Str} {vs : List D} {r : SR} (h0 : noExc sl = true) (h1 : mb sl = .err c ns vs sl') (h2 : noExc sl' = true) (h3 : pickH hs c ns vs sl' = r) : sTry mb hs sl = r := by
  unfold sTry
  rw [if_pos h0, h1]
  simp only [h2, if_true, h3]
theorem try_nx {mb : SM} {hs : List Hd} {sl sl' : List Za.Slot} (h0 : noExc sl = true) (h1 : mb sl = .nx sl') : sTry mb hs sl = .nx sl' := by
  unfold sTry
  rw [if_pos h0, h1]
theorem ask_err {way : Int} {a b : List Int} {i k : Int} {c : Nat} {f t : String} {s6 : Za.Slot} (h1 : askBody (askS way a b i) = .err c [Str.ofString f] [.int k] (askS way a b i)) (h2 : pickH askHs c [Str.ofString f] [.int k] (askS way a b i) = .ret (.v (.tup [SD t, .int k, .bl true])) [.val (.int way), .val (LL a), .val (LL b), .val (.int i), .emp, .emp, s6]) :
    F_law_ask [.v (.int way), .v (LL a), .v (LL b), .v (.int i)] = .ok (.tup [SD t, .int k, .bl true]) false [] := by
  have h : m_law_ask (askS way a b i) = .ret (.v (.tup [SD t, .int k, .bl true])) [.val (.int way), .val (LL a), .val (LL b), .val (.int i), .emp, .emp, s6] := by
    rw [ask_m, sSeq_eq, try_err (sl' := askS way a b i) (by simp [noExc, isExc]) h1 (by simp [noExc, isExc]) h2]
    rfl
  unfold F_law_ask
  refine (fnM_eq (n := 7) (args := [.v (.int way), .v (LL a), .v (LL b), .v (.int i)]) (sl := askS way a b i) rfl h).trans ?_
  rfl
theorem ask_own {way : Int} {a b : List Int} {i : Int} {d : D} (h1 : askBody (askS way a b i) = .nx [.val (.int way), .val (LL a), .val (LL b), .val (.int i), .emp, .own d, .emp]) :
    F_law_ask [.v (.int way), .v (LL a), .v (LL b), .v (.int i)] = .okT false [.fz (SD "told"), .ow d, .fz (.bl true)] [] := by
  have h : m_law_ask (askS way a b i) = .retM false [.fz (SD "told"), .ow d, .fz (.bl true)] [.val (.int way), .val (LL a), .val (LL b), .val (.int i), .emp, .emp, .emp] := by
    rw [ask_m, sSeq_eq, try_nx (by simp [noExc, isExc]) h1]
    simp [seqR, askEnd, sRetM, eSl, small, eMut, isLst, fnM, fin, outsOf, argS, sRet, sRetN, sSeq, sSet, sOwn, sStore, setV, setO, sItem, itemK, sExpr, sSkip, eOp2, op2, oIx, oGt, oLt, oGe, oLe, oDiv, oMod, oMul, oAdd, oSub, oPow, o2I, o2C, eLst, eTup, lCons, lNil, eFn, eVar, eC, Za.eV, eB, frz, cont, conts, vals, Za.tB, Za.tTr, truth, isMut, putMut, storable, setAt, mineD, mutD, reD, retR, bName, bTup, bAll, ePart, oSl, partD, fInt, fLen, fList, eCall, mkArgs, callR, wb, okRet, okErr, sIf_eq, tOrM_eq, tAndM_eq, or_ite, and_ite, eAndV_eq, tNotM, eNotV, oNotN, oIsN, Za.isNon, sRaise, oIn, seqD, flat_int, flats_ints, mst1, mst2, mst3, mst4, shKids]
  unfold F_law_ask
  refine (fnM_eq (n := 7) (args := [.v (.int way), .v (LL a), .v (LL b), .v (.int i)]) (sl := askS way a b i) rfl h).trans ?_
  rfl
theorem ask_val {way : Int} {a b : List Int} {i : Int} {d : D} (h1 : askBody (askS way a b i) = .nx [.val (.int way), .val (LL a), .val (LL b), .val (.int i), .emp, .val d, .emp]) :
    F_law_ask [.v (.int way), .v (LL a), .v (LL b), .v (.int i)] = .okT false [.fz (SD "told"), .fz d, .fz (.bl true)] [] := by
  have h : m_law_ask (askS way a b i) = .retM false [.fz (SD "told"), .fz d, .fz (.bl true)] [.val (.int way), .val (LL a), .val (LL b), .val (.int i), .emp, .val d, .emp] := by
    rw [ask_m, sSeq_eq, try_nx (by simp [noExc, isExc]) h1]
    simp [seqR, askEnd, sRetM, eSl, small, eMut, isLst, fnM, fin, outsOf, argS, sRet, sRetN, sSeq, sSet, sOwn, sStore, setV, setO, sItem, itemK, sExpr, sSkip, eOp2, op2, oIx, oGt, oLt, oGe, oLe, oDiv, oMod, oMul, oAdd, oSub, oPow, o2I, o2C, eLst, eTup, lCons, lNil, eFn, eVar, eC, Za.eV, eB, frz, cont, conts, vals, Za.tB, Za.tTr, truth, isMut, putMut, storable, setAt, mineD, mutD, reD, retR, bName, bTup, bAll, ePart, oSl, partD, fInt, fLen, fList, eCall, mkArgs, callR, wb, okRet, okErr, sIf_eq, tOrM_eq, tAndM_eq, or_ite, and_ite, eAndV_eq, tNotM, eNotV, oNotN, oIsN, Za.isNon, sRaise, oIn, seqD, flat_int, flats_ints, mst1, mst2, mst3, mst4, shKids]
  unfold F_law_ask
  refine (fnM_eq (n := 7) (args := [.v (.int way), .v (LL a), .v (LL b), .v (.int i)]) (sl := askS way a b i) rfl h).trans ?_
  rfl
/-- the four ways of the body -/
theorem body0_err {a b : List Int} {i : Int} {c : Nat} {f : Str} {k : Int} (h : Fcheck_list [.v (LL a)] = .err c [f] [.int k] []) : askBody (askS 0 a b i) = .err c [f] [.int k] (askS 0 a b i) := by
  simp [askBody, eSl, small, eMut, isLst, fnM, fin, outsOf, argS, sRet, sRetN, sSeq, sSet, sOwn, sStore, setV, setO, sItem, itemK, sExpr, sSkip, eOp2, op2, oIx, oGt, oLt, oGe, oLe, oDiv, oMod, oMul, oAdd, oSub, oPow, o2I, o2C, eLst, eTup, lCons, lNil, eFn, eVar, eC, Za.eV, eB, frz, cont, conts, vals, Za.tB, Za.tTr, truth, isMut, putMut, storable, setAt, mineD, mutD, reD, retR, bName, bTup, bAll, ePart, oSl, partD, fInt, fLen, fList, eCall, mkArgs, callR, wb, okRet, okErr, sIf_eq, tOrM_eq, tAndM_eq, or_ite, and_ite, eAndV_eq, tNotM, eNotV, oNotN, oIsN, Za.isNon, sRaise, oIn, seqD, flat_int, flats_ints, mst1, mst2, mst3, mst4, oEq, eqv, sSetX, h]
theorem body0_ok {a b : List Int} {i : Int} (h : Fcheck_list [.v (LL a)] = .ok .non false []) : askBody (askS 0 a b i) = .nx [.val (.int 0), .val (LL a), .val (LL b), .val (.int i), .emp, .val .non, .emp] := by
  simp [askBody, eSl, small, eMut, isLst, fnM, fin, outsOf, argS, sRet, sRetN, sSeq, sSet, sOwn, sStore, setV, setO, sItem, itemK, sExpr, sSkip, eOp2, op2, oIx, oGt, oLt, oGe, oLe, oDiv, oMod, oMul, oAdd, oSub, oPow, o2I, o2C, eLst, eTup, lCons, lNil, eFn, eVar, eC, Za.eV, eB, frz, cont, conts, vals, Za.tB, Za.tTr, truth, isMut, putMut, storable, setAt, mineD, mutD, reD, retR, bName, bTup, bAll, ePart, oSl, partD, fInt, fLen, fList, eCall, mkArgs, callR, wb, okRet, okErr, sIf_eq, tOrM_eq, tAndM_eq, or_ite, and_ite, eAndV_eq, tNotM, eNotV, oNotN, oIsN, Za.isNon, sRaise, oIn, seqD, flat_int, flats_ints, mst1, mst2, mst3, mst4, oEq, eqv, sSetX, setX, h]
theorem body1_err {a b : List Int} {i : Int} {c : Nat} {f : Str} {k : Int} (h : Fswap_at [.v (LL a), .v (.int i)] = .err c [f] [.int k] []) : askBody (askS 1 a b i) = .err c [f] [.int k] (askS 1 a b i) := by
  simp [askBody, eSl, small, eMut, isLst, fnM, fin, outsOf, argS, sRet, sRetN, sSeq, sSet, sOwn, sStore, setV, setO, sItem, itemK, sExpr, sSkip, eOp2, op2, oIx, oGt, oLt, oGe, oLe, oDiv, oMod, oMul, oAdd, oSub, oPow, o2I, o2C, eLst, eTup, lCons, lNil, eFn, eVar, eC, Za.eV, eB, frz, cont, conts, vals, Za.tB, Za.tTr, truth, isMut, putMut, storable, setAt, mineD, mutD, reD, retR, bName, bTup, bAll, ePart, oSl, partD, fInt, fLen, fList, eCall, mkArgs, callR, wb, okRet, okErr, sIf_eq, tOrM_eq, tAndM_eq, or_ite, and_ite, eAndV_eq, tNotM, eNotV, oNotN, oIsN, Za.isNon, sRaise, oIn, seqD, flat_int, flats_ints, mst1, mst2, mst3, mst4, oEq, eqv, sSetX, h]
theorem body1_ok {a b : List Int} {i : Int} {d : D} (h : Fswap_at [.v (LL a), .v (.int i)] = .ok d true []) : askBody (askS 1 a b i) = .nx [.val (.int 1), .val (LL a), .val (LL b), .val (.int i), .emp, .own d, .emp] := by
  simp [askBody, eSl, small, eMut, isLst, fnM, fin, outsOf, argS, sRet, sRetN, sSeq, sSet, sOwn, sStore, setV, setO, sItem, itemK, sExpr, sSkip, eOp2, op2, oIx, oGt, oLt, oGe, oLe, oDiv, oMod, oMul, oAdd, oSub, oPow, o2I, o2C, eLst, eTup, lCons, lNil, eFn, eVar, eC, Za.eV, eB, frz, cont, conts, vals, Za.tB, Za.tTr, truth, isMut, putMut, storable, setAt, mineD, mutD, reD, retR, bName, bTup, bAll, ePart, oSl, partD, fInt, fLen, fList, eCall, mkArgs, callR, wb, okRet, okErr, sIf_eq, tOrM_eq, tAndM_eq, or_ite, and_ite, eAndV_eq, tNotM, eNotV, oNotN, oIsN, Za.isNon, sRaise, oIn, seqD, flat_int, flats_ints, mst1, mst2, mst3, mst4, oEq, eqv, sSetX, setX, h]
theorem body2_err {a b : List Int} {i : Int} {c : Nat} {f : Str} {k : Int} (h : Fdiffering_pairs [.v (LL a), .v (LL b)] = .err c [f] [.int k] []) : askBody (askS 2 a b i) = .err c [f] [.int k] (askS 2 a b i) := by
  simp [askBody, eSl, small, eMut, isLst, fnM, fin, outsOf, argS, sRet, sRetN, sSeq, sSet, sOwn, sStore, setV, setO, sItem, itemK, sExpr, sSkip, eOp2, op2, oIx, oGt, oLt, oGe, oLe, oDiv, oMod, oMul, oAdd, oSub, oPow, o2I, o2C, eLst, eTup, lCons, lNil, eFn, eVar, eC, Za.eV, eB, frz, cont, conts, vals, Za.tB, Za.tTr, truth, isMut, putMut, storable, setAt, mineD, mutD, reD, retR, bName, bTup, bAll, ePart, oSl, partD, fInt, fLen, fList, eCall, mkArgs, callR, wb, okRet, okErr, sIf_eq, tOrM_eq, tAndM_eq, or_ite, and_ite, eAndV_eq, tNotM, eNotV, oNotN, oIsN, Za.isNon, sRaise, oIn, seqD, flat_int, flats_ints, mst1, mst2, mst3, mst4, oEq, eqv, sSetX, h]
theorem body2_ok {a b : List Int} {i : Int} {d : D} (h : Fdiffering_pairs [.v (LL a), .v (LL b)] = .ok d true []) : askBody (askS 2 a b i) = .nx [.val (.int 2), .val (LL a), .val (LL b), .val (.int i), .emp, .own d, .emp] := by
  simp [askBody, eSl, small, eMut, isLst, fnM, fin, outsOf, argS, sRet, sRetN, sSeq, sSet, sOwn, sStore, setV, setO, sItem, itemK, sExpr, sSkip, eOp2, op2, oIx, oGt, oLt, oGe, oLe, oDiv, oMod, oMul, oAdd, oSub, oPow, o2I, o2C, eLst, eTup, lCons, lNil, eFn, eVar, eC, Za.eV, eB, frz, cont, conts, vals, Za.tB, Za.tTr, truth, isMut, putMut, storable, setAt, mineD, mutD, reD, retR, bName, bTup, bAll, ePart, oSl, partD, fInt, fLen, fList, eCall, mkArgs, callR, wb, okRet, okErr, sIf_eq, tOrM_eq, tAndM_eq, or_ite, and_ite, eAndV_eq, tNotM, eNotV, oNotN, oIsN, Za.isNon, sRaise, oIn, seqD, flat_int, flats_ints, mst1, mst2, mst3, mst4, oEq, eqv, sSetX, setX, h]
theorem body3_err {a b : List Int} {i : Int} {c : Nat} {f : Str} {k : Int} (h : Fstraight_swaps [.v (LL a), .v (LL b)] = .err c [f] [.int k] []) : askBody (askS 3 a b i) = .err c [f] [.int k] (askS 3 a b i) := by
  simp [askBody, eSl, small, eMut, isLst, fnM, fin, outsOf, argS, sRet, sRetN, sSeq, sSet, sOwn, sStore, setV, setO, sItem, itemK, sExpr, sSkip, eOp2, op2, oIx, oGt, oLt, oGe, oLe, oDiv, oMod, oMul, oAdd, oSub, oPow, o2I, o2C, eLst, eTup, lCons, lNil, eFn, eVar, eC, Za.eV, eB, frz, cont, conts, vals, Za.tB, Za.tTr, truth, isMut, putMut, storable, setAt, mineD, mutD, reD, retR, bName, bTup, bAll, ePart, oSl, partD, fInt, fLen, fList, eCall, mkArgs, callR, wb, okRet, okErr, sIf_eq, tOrM_eq, tAndM_eq, or_ite, and_ite, eAndV_eq, tNotM, eNotV, oNotN, oIsN, Za.isNon, sRaise, oIn, seqD, flat_int, flats_ints, mst1, mst2, mst3, mst4, oEq, eqv, sSetX, h]
theorem body3_ok {a b : List Int} {i : Int} {d : D} (h : Fstraight_swaps [.v (LL a), .v (LL b)] = .ok d true []) : askBody (askS 3 a b i) = .nx [.val (.int 3), .val (LL a), .val (LL b), .val (.int i), .emp, .own d, .emp] := by
  simp [askBody, eSl, small, eMut, isLst, fnM, fin, outsOf, argS, sRet, sRetN, sSeq, sSet, sOwn, sStore, setV, setO, sItem, itemK, sExpr, sSkip, eOp2, op2, oIx, oGt, oLt, oGe, oLe, oDiv, oMod, oMul, oAdd, oSub, oPow, o2I, o2C, eLst, eTup, lCons, lNil, eFn, eVar, eC, Za.eV, eB, frz, cont, conts, vals, Za.tB, Za.tTr, truth, isMut, putMut, storable, setAt, mineD, mutD, reD, retR, bName, bTup, bAll, ePart, oSl, partD, fInt, fLen, fList, eCall, mkArgs, callR, wb, okRet, okErr, sIf_eq, tOrM_eq, tAndM_eq, or_ite, and_ite, eAndV_eq, tNotM, eNotV, oNotN, oIsN, Za.isNon, sRaise, oIn, seqD, flat_int, flats_ints, mst1, mst2, mst3, mst4, oEq, eqv, sSetX, setX, h]
end Zk06
end
section
set_option linter.all false
set_option maxRecDepth 10000
namespace Zk06
open PySem PySem.Spec PyProof.Rows L2 Za
theorem at0 (x y : D) : atI [x, y] 0 = some x := rfl
theorem at1 (x y : D) : atI [x, y] 1 = some y := rfl
theorem law_int_eq (k : Int) : F_law_int [.v (.int k)] = .ok (.bl true) false [] := by
  simp [F_law_int, m_law_int, fnM, fin, outsOf, argS, eB_r, eV_r, op2_r, eOp2_r, erO, erO2, erB, erV, opC, retR, cont, frz, mineD, tB_r, erT, trC, tTr_r, erTr, trE, trD, truth, tAndM_r, trA, tOrM_r, trO, tNotM_r, trN, eAndV_r, trAV, eOrV_r, trOV, eNotV_r, trNV, eIf_r, trIV, eVar_r, slV, slA, eC_r, lNil_r, lCons_r, erC, lrC, eFn_r, lrF, lrF2, conts, eTup_r, lrT, lrT2, vals, eLst_r, lrL, lrL2, sSeq_r, srQ, sExpr_r, erE, sRet_r, erR, sSkip_r, sRetN_r, sIf_r, trI, sStore_r, erS, sSet_r, sOwn_r, sSetX_r, setX, setO, setV_r, avV, storable, eCall_r, lrK, mkK, mkArgs, callR, wb, okRet, okErr, sRaise_r, erX, ePart_none, ePart_some, erP, slI, eSl_r, erSl, slK_r, slK2_r, cutC, oSl, isMut, putMut, setAt, mutD, reD, sItem, itemK, bName, bTup, bAll, fLen, fInt, fList, oIx, oGt, oLt, oGe, oLe, oDiv, oMod, oMul, oAdd, oSub, oPow, o2I, o2C, small, isLst, oNotN, oIsN, Za.isNon, oIn, seqD, flat_int, flats_ints, mst1, mst2, mst3, mst4, or_ite, and_ite, eKid_r, slKd, kdV, flat_str, flat_bl, flat_non, flat_ints, eqv_ints, eqvs_ints, setX, noAl, eIsi, tyD, askT, isTyp]
theorem asked_err {way : Int} {a b : List Int} {i k : Int} {t : String} (h1 : F_law_ask [.v (.int way), .v (LL a), .v (LL b), .v (.int i)] = .ok (.tup [SD t, .int k, .bl true]) false [])
    (h2 : F_law_due [.v (.int way), .v (LL a), .v (LL b), .v (.int i)] = .ok (.tup [SD t, .int k]) false []) (ht : (Str.ofString t == Str.ofString "told") = false) :
    F_law_asked [.v (.int way), .v (LL a), .v (LL b), .v (.int i)] = .ok (.bl true) false [] := by
  unfold F_law_asked m_law_asked
  have h3 := law_int_eq k
  obtain ⟨A, hA⟩ : ∃ A, A = F_law_ask := ⟨_, rfl⟩
  obtain ⟨U, hU⟩ : ∃ U, U = F_law_due := ⟨_, rfl⟩
  obtain ⟨I, hI⟩ : ∃ I, I = F_law_int := ⟨_, rfl⟩
  rw [← hA, ← hU, ← hI]
  rw [← hA] at h1
  rw [← hU] at h2
  rw [← hI] at h3
  clear hA hU hI
  simp [fnM, fin, outsOf, argS, eB_r, eV_r, op2_r, eOp2_r, erO, erO2, erB, erV, opC, retR, cont, frz, mineD, tB_r, erT, trC, tTr_r, erTr, trE, trD, truth, tAndM_r, trA, tOrM_r, trO, tNotM_r, trN, eAndV_r, trAV, eOrV_r, trOV, eNotV_r, trNV, eIf_r, trIV, eVar_r, slV, slA, eC_r, lNil_r, lCons_r, erC, lrC, eFn_r, lrF, lrF2, conts, eTup_r, lrT, lrT2, vals, eLst_r, lrL, lrL2, sSeq_r, srQ, sExpr_r, erE, sRet_r, erR, sSkip_r, sRetN_r, sIf_r, trI, sStore_r, erS, sSet_r, sOwn_r, sSetX_r, setX, setO, setV_r, avV, storable, eCall_r, lrK, mkK, mkArgs, callR, wb, okRet, okErr, sRaise_r, erX, ePart_none, ePart_some, erP, slI, eSl_r, erSl, slK_r, slK2_r, cutC, oSl, isMut, putMut, setAt, mutD, reD, sItem, itemK, bName, bTup, bAll, fLen, fInt, fList, oIx, oGt, oLt, oGe, oLe, oDiv, oMod, oMul, oAdd, oSub, oPow, o2I, o2C, small, isLst, oNotN, oIsN, Za.isNon, oIn, seqD, flat_int, flats_ints, mst1, mst2, mst3, mst4, or_ite, and_ite, eKid_r, slKd, kdV, flat_str, flat_bl, flat_non, flat_ints, eqv_ints, eqvs_ints, setX, noAl, h1, h2, h3, oEq, oNe, eqv, ht, at0, at1, atI, ixN]

theorem bl_true_ne : (Str.ofString "told" == Str.ofString "told") = true := by decide
theorem asked0 {a b : List Int} {i : Int} (h1 : F_law_ask [.v (.int 0), .v (LL a), .v (LL b), .v (.int i)] = .okT false [.fz (SD "told"), .fz .non, .fz (.bl true)] [])
    (h2 : F_law_due [.v (.int 0), .v (LL a), .v (LL b), .v (.int i)] = .ok (.tup [SD "told", .int 0]) false []) :
    F_law_asked [.v (.int 0), .v (LL a), .v (LL b), .v (.int i)] = .ok (.bl true) false [] := by
  unfold F_law_asked m_law_asked
  obtain ⟨A, hA⟩ : ∃ A, A = F_law_ask := ⟨_, rfl⟩
  obtain ⟨U, hU⟩ : ∃ U, U = F_law_due := ⟨_, rfl⟩
  rw [← hA, ← hU]
  rw [← hA] at h1
  rw [← hU] at h2
  clear hA hU
  simp [fnM, fin, outsOf, argS, eB_r, eV_r, op2_r, eOp2_r, erO, erO2, erB, erV, opC, retR, cont, frz, mineD, tB_r, erT, trC, tTr_r, erTr, trE, trD, truth, tAndM_r, trA, tOrM_r, trO, tNotM_r, trN, eAndV_r, trAV, eOrV_r, trOV, eNotV_r, trNV, eIf_r, trIV, eVar_r, slV, slA, eC_r, lNil_r, lCons_r, erC, lrC, eFn_r, lrF, lrF2, conts, eTup_r, lrT, lrT2, vals, eLst_r, lrL, lrL2, sSeq_r, srQ, sExpr_r, erE, sRet_r, erR, sSkip_r, sRetN_r, sIf_r, trI, sStore_r, erS, sSet_r, sOwn_r, sSetX_r, setX, setO, setV_r, avV, storable, eCall_r, lrK, mkK, mkArgs, callR, wb, okRet, okErr, sRaise_r, erX, ePart_none, ePart_some, erP, slI, eSl_r, erSl, slK_r, slK2_r, cutC, oSl, isMut, putMut, setAt, mutD, reD, sItem, itemK, bName, bTup, bAll, fLen, fInt, fList, oIx, oGt, oLt, oGe, oLe, oDiv, oMod, oMul, oAdd, oSub, oPow, o2I, o2C, small, isLst, oNotN, oIsN, Za.isNon, oIn, seqD, flat_int, flats_ints, mst1, mst2, mst3, mst4, or_ite, and_ite, eKid_r, slKd, kdV, flat_str, flat_bl, flat_non, flat_ints, eqv_ints, eqvs_ints, setX, noAl, h1, h2, oEq, oNe, eqv, at0, at1, atI, ixN, okRetT]
theorem asked1 {a b e : List Int} {i : Int} (h1 : F_law_ask [.v (.int 1), .v (LL a), .v (LL b), .v (.int i)] = .okT false [.fz (SD "told"), .ow (LL e), .fz (.bl true)] [])
    (h2 : F_law_due [.v (.int 1), .v (LL a), .v (LL b), .v (.int i)] = .ok (.tup [SD "told", .int 0]) false [])
    (h3 : F_law_exchanged [.v (LL a), .v (.int i)] = .ok (LL e) true []) (h4 : F_law_ints [.v (LL e), .v (LL e)] = .ok (.bl true) false []) (he : e.length ≤ 1000) :
    F_law_asked [.v (.int 1), .v (LL a), .v (LL b), .v (.int i)] = .ok (.bl true) false [] := by
  unfold F_law_asked m_law_asked
  obtain ⟨A, hA⟩ : ∃ A, A = F_law_ask := ⟨_, rfl⟩
  obtain ⟨U, hU⟩ : ∃ U, U = F_law_due := ⟨_, rfl⟩
  obtain ⟨I, hI⟩ : ∃ I, I = F_law_ints := ⟨_, rfl⟩
  obtain ⟨E, hE⟩ : ∃ E, E = F_law_exchanged := ⟨_, rfl⟩
  rw [← hA, ← hU, ← hI, ← hE]
  rw [← hA] at h1
  rw [← hU] at h2
  rw [← hE] at h3
  rw [← hI] at h4
  clear hA hU hI hE
  have q : e.length ≤ most := le_most he
  simp [fnM, fin, outsOf, argS, eB_r, eV_r, op2_r, eOp2_r, erO, erO2, erB, erV, opC, retR, cont, frz, mineD, tB_r, erT, trC, tTr_r, erTr, trE, trD, truth, tAndM_r, trA, tOrM_r, trO, tNotM_r, trN, eAndV_r, trAV, eOrV_r, trOV, eNotV_r, trNV, eIf_r, trIV, eVar_r, slV, slA, eC_r, lNil_r, lCons_r, erC, lrC, eFn_r, lrF, lrF2, conts, eTup_r, lrT, lrT2, vals, eLst_r, lrL, lrL2, sSeq_r, srQ, sExpr_r, erE, sRet_r, erR, sSkip_r, sRetN_r, sIf_r, trI, sStore_r, erS, sSet_r, sOwn_r, sSetX_r, setX, setO, setV_r, avV, storable, eCall_r, lrK, mkK, mkArgs, callR, wb, okRet, okErr, sRaise_r, erX, ePart_none, ePart_some, erP, slI, eSl_r, erSl, slK_r, slK2_r, cutC, oSl, isMut, putMut, setAt, mutD, reD, sItem, itemK, bName, bTup, bAll, fLen, fInt, fList, oIx, oGt, oLt, oGe, oLe, oDiv, oMod, oMul, oAdd, oSub, oPow, o2I, o2C, small, isLst, oNotN, oIsN, Za.isNon, oIn, seqD, flat_int, flats_ints, mst1, mst2, mst3, mst4, or_ite, and_ite, eKid_r, slKd, kdV, flat_str, flat_bl, flat_non, flat_ints, eqv_ints, eqvs_ints, setX, noAl, h1, h2, h3, h4, oEq, oNe, eqv, at0, at1, atI, ixN, okRetT, solids, solid, eMutP, kidLst, kidD, uAppend, q]
theorem asked2 {a b : List Int} {i : Int} {d : D} (h1 : F_law_ask [.v (.int 2), .v (LL a), .v (LL b), .v (.int i)] = .okT false [.fz (SD "told"), .ow d, .fz (.bl true)] [])
    (h2 : F_law_due [.v (.int 2), .v (LL a), .v (LL b), .v (.int i)] = .ok (.tup [SD "told", .int 0]) false [])
    (h3 : F_law_differing [.v (LL a), .v (LL b)] = .ok d true []) (h4 : F_law_tuples [.v d, .v d] = .ok (.bl true) false []) :
    F_law_asked [.v (.int 2), .v (LL a), .v (LL b), .v (.int i)] = .ok (.bl true) false [] := by
  unfold F_law_asked m_law_asked
  obtain ⟨A, hA⟩ : ∃ A, A = F_law_ask := ⟨_, rfl⟩
  obtain ⟨U, hU⟩ : ∃ U, U = F_law_due := ⟨_, rfl⟩
  obtain ⟨I, hI⟩ : ∃ I, I = F_law_tuples := ⟨_, rfl⟩
  obtain ⟨E, hE⟩ : ∃ E, E = F_law_differing := ⟨_, rfl⟩
  rw [← hA, ← hU, ← hI, ← hE]
  rw [← hA] at h1
  rw [← hU] at h2
  rw [← hE] at h3
  rw [← hI] at h4
  clear hA hU hI hE
  simp [fnM, fin, outsOf, argS, eB_r, eV_r, op2_r, eOp2_r, erO, erO2, erB, erV, opC, retR, cont, frz, mineD, tB_r, erT, trC, tTr_r, erTr, trE, trD, truth, tAndM_r, trA, tOrM_r, trO, tNotM_r, trN, eAndV_r, trAV, eOrV_r, trOV, eNotV_r, trNV, eIf_r, trIV, eVar_r, slV, slA, eC_r, lNil_r, lCons_r, erC, lrC, eFn_r, lrF, lrF2, conts, eTup_r, lrT, lrT2, vals, eLst_r, lrL, lrL2, sSeq_r, srQ, sExpr_r, erE, sRet_r, erR, sSkip_r, sRetN_r, sIf_r, trI, sStore_r, erS, sSet_r, sOwn_r, sSetX_r, setX, setO, setV_r, avV, storable, eCall_r, lrK, mkK, mkArgs, callR, wb, okRet, okErr, sRaise_r, erX, ePart_none, ePart_some, erP, slI, eSl_r, erSl, slK_r, slK2_r, cutC, oSl, isMut, putMut, setAt, mutD, reD, sItem, itemK, bName, bTup, bAll, fLen, fInt, fList, oIx, oGt, oLt, oGe, oLe, oDiv, oMod, oMul, oAdd, oSub, oPow, o2I, o2C, small, isLst, oNotN, oIsN, Za.isNon, oIn, seqD, flat_int, flats_ints, mst1, mst2, mst3, mst4, or_ite, and_ite, eKid_r, slKd, kdV, flat_str, flat_bl, flat_non, flat_ints, eqv_ints, eqvs_ints, setX, noAl, h1, h2, h3, h4, oEq, oNe, eqv, at0, at1, atI, ixN, okRetT, solids, solid, kidD]
theorem asked3 {a b : List Int} {i : Int} {d : D} (h1 : F_law_ask [.v (.int 3), .v (LL a), .v (LL b), .v (.int i)] = .okT false [.fz (SD "told"), .ow d, .fz (.bl true)] [])
    (h2 : F_law_due [.v (.int 3), .v (LL a), .v (LL b), .v (.int i)] = .ok (.tup [SD "told", .int 0]) false [])
    (h4 : F_law_straight [.v (LL a), .v (LL b), .v d] = .ok (.bl true) false []) :
    F_law_asked [.v (.int 3), .v (LL a), .v (LL b), .v (.int i)] = .ok (.bl true) false [] := by
  unfold F_law_asked m_law_asked
  obtain ⟨A, hA⟩ : ∃ A, A = F_law_ask := ⟨_, rfl⟩
  obtain ⟨U, hU⟩ : ∃ U, U = F_law_due := ⟨_, rfl⟩
  obtain ⟨I, hI⟩ : ∃ I, I = F_law_straight := ⟨_, rfl⟩
  rw [← hA, ← hU, ← hI]
  rw [← hA] at h1
  rw [← hU] at h2
  rw [← hI] at h4
  clear hA hU hI
  simp [fnM, fin, outsOf, argS, eB_r, eV_r, op2_r, eOp2_r, erO, erO2, erB, erV, opC, retR, cont, frz, mineD, tB_r, erT, trC, tTr_r, erTr, trE, trD, truth, tAndM_r, trA, tOrM_r, trO, tNotM_r, trN, eAndV_r, trAV, eOrV_r, trOV, eNotV_r, trNV, eIf_r, trIV, eVar_r, slV, slA, eC_r, lNil_r, lCons_r, erC, lrC, eFn_r, lrF, lrF2, conts, eTup_r, lrT, lrT2, vals, eLst_r, lrL, lrL2, sSeq_r, srQ, sExpr_r, erE, sRet_r, erR, sSkip_r, sRetN_r, sIf_r, trI, sStore_r, erS, sSet_r, sOwn_r, sSetX_r, setX, setO, setV_r, avV, storable, eCall_r, lrK, mkK, mkArgs, callR, wb, okRet, okErr, sRaise_r, erX, ePart_none, ePart_some, erP, slI, eSl_r, erSl, slK_r, slK2_r, cutC, oSl, isMut, putMut, setAt, mutD, reD, sItem, itemK, bName, bTup, bAll, fLen, fInt, fList, oIx, oGt, oLt, oGe, oLe, oDiv, oMod, oMul, oAdd, oSub, oPow, o2I, o2C, small, isLst, oNotN, oIsN, Za.isNon, oIn, seqD, flat_int, flats_ints, mst1, mst2, mst3, mst4, or_ite, and_ite, eKid_r, slKd, kdV, flat_str, flat_bl, flat_non, flat_ints, eqv_ints, eqvs_ints, setX, noAl, h1, h2, h4, oEq, oNe, eqv, at0, at1, atI, ixN, okRetT, solids, solid, kidD]
end Zk06
end
section
set_option linter.all false
set_option maxRecDepth 10000
namespace Zk06
open PySem PySem.Spec PyProof.Rows L2 Za
/-- the keys at i and i + 1 exchanged -/
def exch (a : List Int) (i : Nat) : List Int := (a.set i (a.getD (i + 1) 0)).set (i + 1) (a.getD i 0)
theorem exch_len (a : List Int) (i : Nat) : (exch a i).length = a.length := by simp [exch]
theorem ixN_nat {n i : Nat} (h : i < n) : ixN n (i : Int) = some i := by simp [ixN, h]
theorem at_getD (a : List Int) (i : Nat) (h : i < a.length) : atI (a.map D.int) (i : Int) = some (.int (a.getD i 0)) := by
  rw [at_int a i h, List.getD_eq_getElem?_getD, List.getElem?_eq_getElem h]; rfl
theorem law_exchanged_eq (a : List Int) (i : Nat) (h : i + 1 < a.length) : F_law_exchanged [.v (LL a), .v (.int (i : Int))] = .ok (LL (exch a i)) true [] := by
  have h1 := at_getD a i (by omega)
  have h2 := at_getD a (i + 1) h
  have e : ((i : Int) + 1) = ((i + 1 : Nat) : Int) := by omega
  have i1 : ixN a.length (i : Int) = some i := ixN_nat (by omega)
  have i2 : ixN a.length ((i + 1 : Nat) : Int) = some (i + 1) := ixN_nat h
  simp only [← e] at h2 i2
  simp [F_law_exchanged, m_law_exchanged, fnM, fin, outsOf, argS, eB_r, eV_r, op2_r, eOp2_r, erO, erO2, erB, erV, opC, retR, cont, frz, mineD, tB_r, erT, trC, tTr_r, erTr, trE, trD, truth, tAndM_r, trA, tOrM_r, trO, tNotM_r, trN, eAndV_r, trAV, eOrV_r, trOV, eNotV_r, trNV, eIf_r, trIV, eVar_r, slV, slA, eC_r, lNil_r, lCons_r, erC, lrC, eFn_r, lrF, lrF2, conts, eTup_r, lrT, lrT2, vals, eLst_r, lrL, lrL2, sSeq_r, srQ, sExpr_r, erE, sRet_r, erR, sSkip_r, sRetN_r, sIf_r, trI, sStore_r, erS, sSet_r, sOwn_r, sSetX_r, setX, setO, setV_r, avV, storable, eCall_r, lrK, mkK, mkArgs, callR, wb, okRet, okErr, sRaise_r, erX, ePart_none, ePart_some, erP, slI, eSl_r, erSl, slK_r, slK2_r, cutC, oSl, isMut, putMut, setAt, mutD, reD, sItem, itemK, bName, bTup, bAll, fLen, fInt, fList, oIx, oGt, oLt, oGe, oLe, oDiv, oMod, oMul, oAdd, oSub, oPow, o2I, o2C, small, isLst, oNotN, oIsN, Za.isNon, oIn, seqD, flat_int, flats_ints, mst1, mst2, mst3, mst4, or_ite, and_ite, eKid_r, slKd, kdV, flat_str, flat_bl, flat_non, flat_ints, eqv_ints, eqvs_ints, setX, noAl, h1, h2, i1, i2, exch, ← List.map_set]
theorem drop2 {α : Type} : ∀ (a : List α) (i : Nat) (x y : α), a[i]? = some x → a[i + 1]? = some y → ∀ u v : α, (a.set i u).set (i + 1) v = a.take i ++ [u, v] ++ a.drop (i + 2)
  | [], i, x, y, h, _, _, _ => by simp at h
  | [p], 0, x, y, _, h, _, _ => by simp at h
  | p :: q :: r, 0, x, y, _, _, u, v => by simp
  | p :: r, i + 1, x, y, h1, h2, u, v => by
    have := drop2 r i x y (by simpa using h1) (by simpa using h2) u v
    simp only [List.set_cons_succ, List.take_succ_cons, List.cons_append, this]
    rfl
theorem exch_cut (a : List Int) (i : Nat) (h : i + 1 < a.length) : exch a i = a.take i ++ [a.getD (i + 1) 0, a.getD i 0] ++ a.drop (i + 2) :=
  drop2 a i a[i] a[i + 1] (List.getElem?_eq_getElem (by omega)) (List.getElem?_eq_getElem h) _ _
theorem swap_at_wrong (a : List Int) (i : Int) (p : Nat) (h : wr a = some p) : Fswap_at [.v (LL a), .v (.int i)] = .err 1 [Str.ofString "place"] [.int (p : Int)] [] := by
  have c := check_list_eq a
  rw [h] at c
  unfold Fswap_at mswap_at
  obtain ⟨C, hC⟩ : ∃ C, C = Fcheck_list := ⟨_, rfl⟩
  rw [← hC] at c ⊢
  clear hC
  simp [fnM, fin, outsOf, argS, eB_r, eV_r, op2_r, eOp2_r, erO, erO2, erB, erV, opC, retR, cont, frz, mineD, tB_r, erT, trC, tTr_r, erTr, trE, trD, truth, tAndM_r, trA, tOrM_r, trO, tNotM_r, trN, eAndV_r, trAV, eOrV_r, trOV, eNotV_r, trNV, eIf_r, trIV, eVar_r, slV, slA, eC_r, lNil_r, lCons_r, erC, lrC, eFn_r, lrF, lrF2, conts, eTup_r, lrT, lrT2, vals, eLst_r, lrL, lrL2, sSeq_r, srQ, sExpr_r, erE, sRet_r, erR, sSkip_r, sRetN_r, sIf_r, trI, sStore_r, erS, sSet_r, sOwn_r, sSetX_r, setX, setO, setV_r, avV, storable, eCall_r, lrK, mkK, mkArgs, callR, wb, okRet, okErr, sRaise_r, erX, ePart_none, ePart_some, erP, slI, eSl_r, erSl, slK_r, slK2_r, cutC, oSl, isMut, putMut, setAt, mutD, reD, sItem, itemK, bName, bTup, bAll, fLen, fInt, fList, oIx, oGt, oLt, oGe, oLe, oDiv, oMod, oMul, oAdd, oSub, oPow, o2I, o2C, small, isLst, oNotN, oIsN, Za.isNon, oIn, seqD, flat_int, flats_ints, mst1, mst2, mst3, mst4, or_ite, and_ite, eKid_r, slKd, kdV, flat_str, flat_bl, flat_non, flat_ints, eqv_ints, eqvs_ints, setX, noAl, c]
theorem swap_at_off (a : List Int) (i : Int) (h : wr a = none) (h2 : offI a.length i = true) : Fswap_at [.v (LL a), .v (.int i)] = .err 3 [Str.ofString "step"] [.int 0] [] := by
  have c := check_list_eq a
  rw [h] at c
  unfold Fswap_at mswap_at
  obtain ⟨C, hC⟩ : ∃ C, C = Fcheck_list := ⟨_, rfl⟩
  rw [← hC] at c ⊢
  clear hC
  simp [offI] at h2
  simp [fnM, fin, outsOf, argS, eB_r, eV_r, op2_r, eOp2_r, erO, erO2, erB, erV, opC, retR, cont, frz, mineD, tB_r, erT, trC, tTr_r, erTr, trE, trD, truth, tAndM_r, trA, tOrM_r, trO, tNotM_r, trN, eAndV_r, trAV, eOrV_r, trOV, eNotV_r, trNV, eIf_r, trIV, eVar_r, slV, slA, eC_r, lNil_r, lCons_r, erC, lrC, eFn_r, lrF, lrF2, conts, eTup_r, lrT, lrT2, vals, eLst_r, lrL, lrL2, sSeq_r, srQ, sExpr_r, erE, sRet_r, erR, sSkip_r, sRetN_r, sIf_r, trI, sStore_r, erS, sSet_r, sOwn_r, sSetX_r, setX, setO, setV_r, avV, storable, eCall_r, lrK, mkK, mkArgs, callR, wb, okRet, okErr, sRaise_r, erX, ePart_none, ePart_some, erP, slI, eSl_r, erSl, slK_r, slK2_r, cutC, oSl, isMut, putMut, setAt, mutD, reD, sItem, itemK, bName, bTup, bAll, fLen, fInt, fList, oIx, oGt, oLt, oGe, oLe, oDiv, oMod, oMul, oAdd, oSub, oPow, o2I, o2C, small, isLst, oNotN, oIsN, Za.isNon, oIn, seqD, flat_int, flats_ints, mst1, mst2, mst3, mst4, or_ite, and_ite, eKid_r, slKd, kdV, flat_str, flat_bl, flat_non, flat_ints, eqv_ints, eqvs_ints, setX, noAl, c, h2]
theorem swap_at_eq (a : List Int) (i : Nat) (h : wr a = none) (h2 : i + 1 < a.length) : Fswap_at [.v (LL a), .v (.int (i : Int))] = .ok (LL (exch a i)) true [] := by
  have c := check_list_eq a
  rw [h] at c
  have g1 := at_getD a i (by omega)
  have g2 := at_getD a (i + 1) h2
  have e : ((i : Int) + 1) = ((i + 1 : Nat) : Int) := by omega
  simp only [← e] at g2
  have c1 := cut_to a i
  have c2 := cut_from a (i + 2)
  have e2 : ((i : Int) + 2) = ((i + 2 : Nat) : Int) := by omega
  simp only [← e2] at c2
  have n1 : ¬ ((i : Int) < 0) := by omega
  have n2 : ¬ ((a.length : Int) - 2 < (i : Int)) := by omega
  have l1 : (a.take i).length + 2 ≤ most := le_most (by have := (wr_none h).len; simp; omega)
  have l2 : (a.take i).length + 2 + (a.drop (i + 2)).length ≤ most := le_most (by have := (wr_none h).len; simp; omega)
  rw [exch_cut a i h2]
  unfold Fswap_at mswap_at
  obtain ⟨C, hC⟩ : ∃ C, C = Fcheck_list := ⟨_, rfl⟩
  rw [← hC] at c ⊢
  clear hC
  generalize a.take i = T at *
  generalize a.drop (i + 2) = R at *
  simp [fnM, fin, outsOf, argS, eB_r, eV_r, op2_r, eOp2_r, erO, erO2, erB, erV, opC, retR, cont, frz, mineD, tB_r, erT, trC, tTr_r, erTr, trE, trD, truth, tAndM_r, trA, tOrM_r, trO, tNotM_r, trN, eAndV_r, trAV, eOrV_r, trOV, eNotV_r, trNV, eIf_r, trIV, eVar_r, slV, slA, eC_r, lNil_r, lCons_r, erC, lrC, eFn_r, lrF, lrF2, conts, eTup_r, lrT, lrT2, vals, eLst_r, lrL, lrL2, sSeq_r, srQ, sExpr_r, erE, sRet_r, erR, sSkip_r, sRetN_r, sIf_r, trI, sStore_r, erS, sSet_r, sOwn_r, sSetX_r, setX, setO, setV_r, avV, storable, eCall_r, lrK, mkK, mkArgs, callR, wb, okRet, okErr, sRaise_r, erX, ePart_none, ePart_some, erP, slI, eSl_r, erSl, slK_r, slK2_r, cutC, oSl, isMut, putMut, setAt, mutD, reD, sItem, itemK, bName, bTup, bAll, fLen, fInt, fList, oIx, oGt, oLt, oGe, oLe, oDiv, oMod, oMul, oAdd, oSub, oPow, o2I, o2C, small, isLst, oNotN, oIsN, Za.isNon, oIn, seqD, flat_int, flats_ints, mst1, mst2, mst3, mst4, or_ite, and_ite, eKid_r, slKd, kdV, flat_str, flat_bl, flat_non, flat_ints, eqv_ints, eqvs_ints, setX, noAl, c, g1, g2, c1, c2, n1, n2, l1, l2]
theorem filter_tt {α : Type} (l : List α) : l.filter (fun _ => true) = l := List.filter_eq_self.mpr fun _ _ => rfl
theorem blsD_true {α : Type} : ∀ (l : List α), blsD (l.map (fun _ => D.bl true)) = some (l.map fun _ => true)
  | [] => rfl
  | x :: l => by simp [blsD, blsD_true l]
theorem all_true {α : Type} (l : List α) : fAll [.lst (l.map (fun _ => D.bl true))] = some (.val (.bl true)) := by
  simp only [fAll, blsD_true, Option.map_some]
  congr 3
  induction l with
  | nil => rfl
  | cons x l ih => simpa using ih
theorem law_ints_eq (e : List Int) (hl : e.length ≤ 1000) : F_law_ints [.v (LL e), .v (LL e)] = .ok (.bl true) false [] := by
  have h1 : eLc (iLst (eVar 0)) [2] (bName 2) (tYesM) (eCall F_law_int [false] (lCons (eVar 2) (lNil))) [.val (LL e), .val (LL e), .emp] = .ok (.n (.lst ((e.filter (fun _ => true)).map (fun _ => D.bl true)))) [.val (LL e), .val (LL e), .emp] := by
    refine eLc_eq D.int (fun k => [.val (LL e), .val (LL e), .val (.int k)]) _ _ e rfl rfl (fun k _ => ⟨rfl, rfl, fun _ => ⟨.v (.bl true), ?_, rfl⟩, rfl⟩) hl
    have := law_int_eq k
    obtain ⟨I, hI⟩ : ∃ I, I = F_law_int := ⟨_, rfl⟩
    rw [← hI] at this ⊢
    clear hI
    simp [fnM, fin, outsOf, argS, eB_r, eV_r, op2_r, eOp2_r, erO, erO2, erB, erV, opC, retR, cont, frz, mineD, tB_r, erT, trC, tTr_r, erTr, trE, trD, truth, tAndM_r, trA, tOrM_r, trO, tNotM_r, trN, eAndV_r, trAV, eOrV_r, trOV, eNotV_r, trNV, eIf_r, trIV, eVar_r, slV, slA, eC_r, lNil_r, lCons_r, erC, lrC, eFn_r, lrF, lrF2, conts, eTup_r, lrT, lrT2, vals, eLst_r, lrL, lrL2, sSeq_r, srQ, sExpr_r, erE, sRet_r, erR, sSkip_r, sRetN_r, sIf_r, trI, sStore_r, erS, sSet_r, sOwn_r, sSetX_r, setX, setO, setV_r, avV, storable, eCall_r, lrK, mkK, mkArgs, callR, wb, okRet, okErr, sRaise_r, erX, ePart_none, ePart_some, erP, slI, eSl_r, erSl, slK_r, slK2_r, cutC, oSl, isMut, putMut, setAt, mutD, reD, sItem, itemK, bName, bTup, bAll, fLen, fInt, fList, oIx, oGt, oLt, oGe, oLe, oDiv, oMod, oMul, oAdd, oSub, oPow, o2I, o2C, small, isLst, oNotN, oIsN, Za.isNon, oIn, seqD, flat_int, flats_ints, mst1, mst2, mst3, mst4, or_ite, and_ite, eKid_r, slKd, kdV, flat_str, flat_bl, flat_non, flat_ints, eqv_ints, eqvs_ints, setX, noAl, this]
  unfold F_law_ints m_law_ints
  obtain ⟨E, hE⟩ : ∃ E, E = eLc (iLst (eVar 0)) [2] (bName 2) (tYesM) (eCall F_law_int [false] (lCons (eVar 2) (lNil))) := ⟨_, rfl⟩
  rw [← hE] at h1 ⊢
  clear hE
  have h2 := all_true (e.filter (fun _ => true))
  simp only [filter_tt] at h1 h2
  simp [fnM, fin, outsOf, argS, eB_r, eV_r, op2_r, eOp2_r, erO, erO2, erB, erV, opC, retR, cont, frz, mineD, tB_r, erT, trC, tTr_r, erTr, trE, trD, truth, tAndM_r, trA, tOrM_r, trO, tNotM_r, trN, eAndV_r, trAV, eOrV_r, trOV, eNotV_r, trNV, eIf_r, trIV, eVar_r, slV, slA, eC_r, lNil_r, lCons_r, erC, lrC, eFn_r, lrF, lrF2, conts, eTup_r, lrT, lrT2, vals, eLst_r, lrL, lrL2, sSeq_r, srQ, sExpr_r, erE, sRet_r, erR, sSkip_r, sRetN_r, sIf_r, trI, sStore_r, erS, sSet_r, sOwn_r, sSetX_r, setX, setO, setV_r, avV, storable, eCall_r, lrK, mkK, mkArgs, callR, wb, okRet, okErr, sRaise_r, erX, ePart_none, ePart_some, erP, slI, eSl_r, erSl, slK_r, slK2_r, cutC, oSl, isMut, putMut, setAt, mutD, reD, sItem, itemK, bName, bTup, bAll, fLen, fInt, fList, oIx, oGt, oLt, oGe, oLe, oDiv, oMod, oMul, oAdd, oSub, oPow, o2I, o2C, small, isLst, oNotN, oIsN, Za.isNon, oIn, seqD, flat_int, flats_ints, mst1, mst2, mst3, mst4, or_ite, and_ite, eKid_r, slKd, kdV, flat_str, flat_bl, flat_non, flat_ints, eqv_ints, eqvs_ints, setX, noAl, h1, h2, eIsi, tyD, askT, isTyp, oEq]
theorem law_tuple_eq (p : Int × Int) : F_law_tuple [.v (pairD p), .v (pairD p)] = .ok (.bl true) false [] := by
  have h1 : eLc (iTupM (eVar 0)) [2] (bName 2) (tYesM) (eCall F_law_int [false] (lCons (eVar 2) (lNil))) [.val (pairD p), .val (pairD p), .emp] = .ok (.n (.lst (([p.1, p.2].filter (fun _ => true)).map (fun _ => D.bl true)))) [.val (pairD p), .val (pairD p), .emp] := by
    refine eLc_eq D.int (fun k => [.val (pairD p), .val (pairD p), .val (.int k)]) _ _ [p.1, p.2] rfl rfl (fun k _ => ⟨rfl, rfl, fun _ => ⟨.v (.bl true), ?_, rfl⟩, rfl⟩) (by simp)
    have := law_int_eq k
    obtain ⟨I, hI⟩ : ∃ I, I = F_law_int := ⟨_, rfl⟩
    rw [← hI] at this ⊢
    clear hI
    simp [fnM, fin, outsOf, argS, eB_r, eV_r, op2_r, eOp2_r, erO, erO2, erB, erV, opC, retR, cont, frz, mineD, tB_r, erT, trC, tTr_r, erTr, trE, trD, truth, tAndM_r, trA, tOrM_r, trO, tNotM_r, trN, eAndV_r, trAV, eOrV_r, trOV, eNotV_r, trNV, eIf_r, trIV, eVar_r, slV, slA, eC_r, lNil_r, lCons_r, erC, lrC, eFn_r, lrF, lrF2, conts, eTup_r, lrT, lrT2, vals, eLst_r, lrL, lrL2, sSeq_r, srQ, sExpr_r, erE, sRet_r, erR, sSkip_r, sRetN_r, sIf_r, trI, sStore_r, erS, sSet_r, sOwn_r, sSetX_r, setX, setO, setV_r, avV, storable, eCall_r, lrK, mkK, mkArgs, callR, wb, okRet, okErr, sRaise_r, erX, ePart_none, ePart_some, erP, slI, eSl_r, erSl, slK_r, slK2_r, cutC, oSl, isMut, putMut, setAt, mutD, reD, sItem, itemK, bName, bTup, bAll, fLen, fInt, fList, oIx, oGt, oLt, oGe, oLe, oDiv, oMod, oMul, oAdd, oSub, oPow, o2I, o2C, small, isLst, oNotN, oIsN, Za.isNon, oIn, seqD, flat_int, flats_ints, mst1, mst2, mst3, mst4, or_ite, and_ite, eKid_r, slKd, kdV, flat_str, flat_bl, flat_non, flat_ints, eqv_ints, eqvs_ints, setX, noAl, this]
  unfold F_law_tuple m_law_tuple
  obtain ⟨E, hE⟩ : ∃ E, E = eLc (iTupM (eVar 0)) [2] (bName 2) (tYesM) (eCall F_law_int [false] (lCons (eVar 2) (lNil))) := ⟨_, rfl⟩
  rw [← hE] at h1 ⊢
  clear hE
  have h2 := all_true ([p.1, p.2].filter (fun _ => true))
  simp only [filter_tt, List.map_cons, List.map_nil] at h1 h2
  simp [fnM, fin, outsOf, argS, eB_r, eV_r, op2_r, eOp2_r, erO, erO2, erB, erV, opC, retR, cont, frz, mineD, tB_r, erT, trC, tTr_r, erTr, trE, trD, truth, tAndM_r, trA, tOrM_r, trO, tNotM_r, trN, eAndV_r, trAV, eOrV_r, trOV, eNotV_r, trNV, eIf_r, trIV, eVar_r, slV, slA, eC_r, lNil_r, lCons_r, erC, lrC, eFn_r, lrF, lrF2, conts, eTup_r, lrT, lrT2, vals, eLst_r, lrL, lrL2, sSeq_r, srQ, sExpr_r, erE, sRet_r, erR, sSkip_r, sRetN_r, sIf_r, trI, sStore_r, erS, sSet_r, sOwn_r, sSetX_r, setX, setO, setV_r, avV, storable, eCall_r, lrK, mkK, mkArgs, callR, wb, okRet, okErr, sRaise_r, erX, ePart_none, ePart_some, erP, slI, eSl_r, erSl, slK_r, slK2_r, cutC, oSl, isMut, putMut, setAt, mutD, reD, sItem, itemK, bName, bTup, bAll, fLen, fInt, fList, oIx, oGt, oLt, oGe, oLe, oDiv, oMod, oMul, oAdd, oSub, oPow, o2I, o2C, small, isLst, oNotN, oIsN, Za.isNon, oIn, seqD, flat_int, flats_ints, mst1, mst2, mst3, mst4, or_ite, and_ite, eKid_r, slKd, kdV, flat_str, flat_bl, flat_non, flat_ints, eqv_ints, eqvs_ints, setX, noAl, h1, h2, eIsi, tyD, askT, isTyp, oEq, eqv, eqvs, flat, flats]
theorem rngD_map (n : Nat) : rngD 0 n = (List.range n).map fun i : Nat => D.int (i : Int) := by
  unfold rngD
  apply List.map_congr_left
  intro i _
  simp
theorem at_pair (ps : List (Int × Int)) (i : Nat) (h : i < ps.length) : atI (ps.map Za.pairD) (i : Int) = some (Za.pairD ps[i]) := by
  simp [atI, ixN, h]
theorem law_tuples_eq (ps : List (Int × Int)) (hl : ps.length ≤ 1000) : F_law_tuples [.v (.lst (ps.map pairD)), .v (.lst (ps.map pairD))] = .ok (.bl true) false [] := by
  have h1 : eLc (iRng (lCons (eFn fLen (lCons (eVar 1) lNil)) lNil)) [2] (bName 2) (tYesM) (eCall F_law_tuple [false, false] (lCons (eOp2 oIx (eVar 0) (eVar 2)) (lCons (eOp2 oIx (eVar 1) (eVar 2)) (lNil)))) [.val (.lst (ps.map pairD)), .val (.lst (ps.map pairD)), .emp] = .ok (.n (.lst (((List.range ps.length).filter (fun _ => true)).map (fun _ => D.bl true)))) [.val (.lst (ps.map pairD)), .val (.lst (ps.map pairD)), .emp] := by
    refine eLc_eq (fun i : Nat => D.int (i : Int)) (fun k => [.val (.lst (ps.map pairD)), .val (.lst (ps.map pairD)), .val (.int (k : Int))]) _ _ (List.range ps.length) ?_ rfl (fun k hk => ⟨rfl, rfl, fun _ => ⟨.v (.bl true), ?_, rfl⟩, rfl⟩) (by simpa using hl)
    · rw [← rngD_map]
      refine rng1 (lCons1 (a := .v (.int (ps.length : Int))) ?_) hl
      simp [fnM, fin, outsOf, argS, eB_r, eV_r, op2_r, eOp2_r, erO, erO2, erB, erV, opC, retR, cont, frz, mineD, tB_r, erT, trC, tTr_r, erTr, trE, trD, truth, tAndM_r, trA, tOrM_r, trO, tNotM_r, trN, eAndV_r, trAV, eOrV_r, trOV, eNotV_r, trNV, eIf_r, trIV, eVar_r, slV, slA, eC_r, lNil_r, lCons_r, erC, lrC, eFn_r, lrF, lrF2, conts, eTup_r, lrT, lrT2, vals, eLst_r, lrL, lrL2, sSeq_r, srQ, sExpr_r, erE, sRet_r, erR, sSkip_r, sRetN_r, sIf_r, trI, sStore_r, erS, sSet_r, sOwn_r, sSetX_r, setX, setO, setV_r, avV, storable, eCall_r, lrK, mkK, mkArgs, callR, wb, okRet, okErr, sRaise_r, erX, ePart_none, ePart_some, erP, slI, eSl_r, erSl, slK_r, slK2_r, cutC, oSl, isMut, putMut, setAt, mutD, reD, sItem, itemK, bName, bTup, bAll, fLen, fInt, fList, oIx, oGt, oLt, oGe, oLe, oDiv, oMod, oMul, oAdd, oSub, oPow, o2I, o2C, small, isLst, oNotN, oIsN, Za.isNon, oIn, seqD, flat_int, flats_ints, mst1, mst2, mst3, mst4, or_ite, and_ite, eKid_r, slKd, kdV, flat_str, flat_bl, flat_non, flat_ints, eqv_ints, eqvs_ints, setX, noAl]
    · have hk' : k < ps.length := by simpa using hk
      have := law_tuple_eq ps[k]
      have q := at_pair ps k hk'
      obtain ⟨I, hI⟩ : ∃ I, I = F_law_tuple := ⟨_, rfl⟩
      rw [← hI] at this ⊢
      clear hI
      simp [fnM, fin, outsOf, argS, eB_r, eV_r, op2_r, eOp2_r, erO, erO2, erB, erV, opC, retR, cont, frz, mineD, tB_r, erT, trC, tTr_r, erTr, trE, trD, truth, tAndM_r, trA, tOrM_r, trO, tNotM_r, trN, eAndV_r, trAV, eOrV_r, trOV, eNotV_r, trNV, eIf_r, trIV, eVar_r, slV, slA, eC_r, lNil_r, lCons_r, erC, lrC, eFn_r, lrF, lrF2, conts, eTup_r, lrT, lrT2, vals, eLst_r, lrL, lrL2, sSeq_r, srQ, sExpr_r, erE, sRet_r, erR, sSkip_r, sRetN_r, sIf_r, trI, sStore_r, erS, sSet_r, sOwn_r, sSetX_r, setX, setO, setV_r, avV, storable, eCall_r, lrK, mkK, mkArgs, callR, wb, okRet, okErr, sRaise_r, erX, ePart_none, ePart_some, erP, slI, eSl_r, erSl, slK_r, slK2_r, cutC, oSl, isMut, putMut, setAt, mutD, reD, sItem, itemK, bName, bTup, bAll, fLen, fInt, fList, oIx, oGt, oLt, oGe, oLe, oDiv, oMod, oMul, oAdd, oSub, oPow, o2I, o2C, small, isLst, oNotN, oIsN, Za.isNon, oIn, seqD, flat_int, flats_ints, mst1, mst2, mst3, mst4, or_ite, and_ite, eKid_r, slKd, kdV, flat_str, flat_bl, flat_non, flat_ints, eqv_ints, eqvs_ints, setX, noAl, this, q]
  unfold F_law_tuples m_law_tuples
  obtain ⟨E, hE⟩ : ∃ E, E = eLc (iRng (lCons (eFn fLen (lCons (eVar 1) lNil)) lNil)) [2] (bName 2) (tYesM) (eCall F_law_tuple [false, false] (lCons (eOp2 oIx (eVar 0) (eVar 2)) (lCons (eOp2 oIx (eVar 1) (eVar 2)) (lNil)))) := ⟨_, rfl⟩
  rw [← hE] at h1 ⊢
  clear hE
  have h2 := all_true ((List.range ps.length).filter (fun _ => true))
  simp only [filter_tt] at h1 h2
  simp [fnM, fin, outsOf, argS, eB_r, eV_r, op2_r, eOp2_r, erO, erO2, erB, erV, opC, retR, cont, frz, mineD, tB_r, erT, trC, tTr_r, erTr, trE, trD, truth, tAndM_r, trA, tOrM_r, trO, tNotM_r, trN, eAndV_r, trAV, eOrV_r, trOV, eNotV_r, trNV, eIf_r, trIV, eVar_r, slV, slA, eC_r, lNil_r, lCons_r, erC, lrC, eFn_r, lrF, lrF2, conts, eTup_r, lrT, lrT2, vals, eLst_r, lrL, lrL2, sSeq_r, srQ, sExpr_r, erE, sRet_r, erR, sSkip_r, sRetN_r, sIf_r, trI, sStore_r, erS, sSet_r, sOwn_r, sSetX_r, setX, setO, setV_r, avV, storable, eCall_r, lrK, mkK, mkArgs, callR, wb, okRet, okErr, sRaise_r, erX, ePart_none, ePart_some, erP, slI, eSl_r, erSl, slK_r, slK2_r, cutC, oSl, isMut, putMut, setAt, mutD, reD, sItem, itemK, bName, bTup, bAll, fLen, fInt, fList, oIx, oGt, oLt, oGe, oLe, oDiv, oMod, oMul, oAdd, oSub, oPow, o2I, o2C, small, isLst, oNotN, oIsN, Za.isNon, oIn, seqD, flat_int, flats_ints, mst1, mst2, mst3, mst4, or_ite, and_ite, eKid_r, slKd, kdV, flat_str, flat_bl, flat_non, flat_ints, eqv_ints, eqvs_ints, setX, noAl, h1, h2, eIsi, tyD, askT, isTyp, oNe, eqv]
end Zk06
end
section
set_option linter.all false
set_option maxRecDepth 10000
namespace Zk06
open PySem PySem.Spec PyProof.Rows L2 Za
/-- the pairs (x, y), x before y, in the order of the list -/
def prsIn : List Int → List (Int × Int)
  | [] => []
  | x :: r => r.map (fun y => (x, y)) ++ prsIn r
abbrev LP (ps : List (Int × Int)) : D := .lst (ps.map Za.pairD)
/-- where a key stands -/
def ix (b : List Int) (k : Int) : Nat := b.findIdx (fun n => n == k)
theorem ix_cons (x : Int) (b : List Int) (k : Int) : ix (x :: b) k = if x = k then 0 else ix b k + 1 := by
  unfold ix
  rw [List.findIdx_cons]
  by_cases h : x = k
  · simp [h]
  · have e : (x == k) = false := by simpa using h
    rw [e, if_neg h]
    rfl
theorem ix_lt : ∀ {b : List Int} {k : Int}, k ∈ b → ix b k < b.length
  | [], k, h => by simp at h
  | x :: b, k, h => by
    rw [ix_cons]
    by_cases e : x = k
    · rw [if_pos e]; simp
    · rw [if_neg e]
      have := ix_lt (b := b) (k := k) (by simpa [Ne.symm e, eq_comm, e] using h)
      simp; omega
theorem idxI_eq : ∀ {b : List Int} {k : Int}, k ∈ b → idxI b k = some (ix b k)
  | [], k, h => by simp at h
  | x :: b, k, h => by
    unfold idxI
    rw [List.findIdx?_cons, ix_cons]
    by_cases e : x = k
    · simp [e]
    · have := idxI_eq (b := b) (k := k) (by simpa [Ne.symm e, eq_comm, e] using h)
      unfold idxI at this
      simp [e, this]
theorem ix_get : ∀ {b : List Int} {i : Nat} (h : i < b.length), b.Nodup → ix b b[i] = i
  | x :: b, 0, _, _ => by simp [ix_cons]
  | x :: b, i + 1, h, nd => by
    have nd' := List.nodup_cons.mp nd
    have hi : i < b.length := by simpa using h
    have ne : x ≠ b[i] := fun e => nd'.1 (e ▸ List.getElem_mem hi)
    rw [List.getElem_cons_succ, ix_cons, if_neg ne, ix_get hi nd'.2]
theorem get_ix {b : List Int} {k : Int} (h : k ∈ b) : b.getD (ix b k) 0 = k := by
  have h1 := ix_lt h
  rw [List.getD_eq_getElem?_getD, List.getElem?_eq_getElem h1]
  unfold ix at h1 ⊢
  have := List.findIdx_getElem (w := h1)
  simpa using this
theorem index_eq {b : List Int} {k : Int} (h : k ∈ b) : mIndex (.lst (b.map D.int)) [.int k] = some (.val (.int (ix b k : Nat))) := by
  simp [mIndex, intsD_map, idxI_eq h]
theorem prsIn_len : ∀ (a : List Int), (prsIn a).length ≤ a.length * a.length
  | [] => by simp [prsIn]
  | x :: r => by
    have := prsIn_len r
    simp only [prsIn, List.length_append, List.length_map, List.length_cons]
    have e : (r.length + 1) * (r.length + 1) = r.length * r.length + 2 * r.length + 1 := by rw [Nat.add_mul, Nat.mul_add]; omega
    omega
theorem pairs_loop (a : List Int) (hl : a.length ≤ 30) : ∀ (ds : List Int) (p : Nat) (acc : List (Int × Int)), a.drop p = ds → acc.length + (prsIn ds).length ≤ 1000 →
    lcL2 (fun _ => true) [1, 2, 3] [3] (bTup [bName 1, bName 2]) (tYesM) (iLst (eSl (eVar 0) (some (eOp2 oAdd (eVar 1) (eC (.int 1)))) none)) (bName 3) (tYesM) (eTup (lCons (eVar 2) (lCons (eVar 3) (lNil)))) (enumD p (ds.map D.int)) (acc.map Za.pairD) [.val (LL a), .emp, .emp, .emp] = some ((acc ++ prsIn ds).map Za.pairD, [.val (LL a), .emp, .emp, .emp]) := by
  intro ds
  induction ds with
  | nil => intro p acc _ _; simp [enumD, lcL2, prsIn]
  | cons x r ih =>
    intro p acc hd hm
    have hr : a.drop (p + 1) = r := by
      have := congrArg List.tail hd
      simpa [List.tail_drop] using this
    have h1 : bTup [bName 1, bName 2] (.tup [.int (p : Nat), .int x]) [.val (LL a), .emp, .emp, .emp] = some [.val (LL a), .val (.int (p : Nat)), .val (.int x), .emp] := rfl
    have c2 := cut_from a (p + 1)
    have e2 : ((p : Int) + 1) = ((p + 1 : Nat) : Int) := by omega
    simp only [← e2] at c2
    have h2 : iLst (eSl (eVar 0) (some (eOp2 oAdd (eVar 1) (eC (.int 1)))) none) [.val (LL a), .val (.int (p : Nat)), .val (.int x), .emp] = .ok (r.map D.int) none [.val (LL a), .val (.int (p : Nat)), .val (.int x), .emp] := by
      rw [hr] at c2
      simp [iLst, fnM, fin, outsOf, argS, eB_r, eV_r, op2_r, eOp2_r, erO, erO2, erB, erV, opC, retR, cont, frz, mineD, tB_r, erT, trC, tTr_r, erTr, trE, trD, truth, tAndM_r, trA, tOrM_r, trO, tNotM_r, trN, eAndV_r, trAV, eOrV_r, trOV, eNotV_r, trNV, eIf_r, trIV, eVar_r, slV, slA, eC_r, lNil_r, lCons_r, erC, lrC, eFn_r, lrF, lrF2, conts, eTup_r, lrT, lrT2, vals, eLst_r, lrL, lrL2, sSeq_r, srQ, sExpr_r, erE, sRet_r, erR, sSkip_r, sRetN_r, sIf_r, trI, sStore_r, erS, sSet_r, sOwn_r, sSetX_r, setX, setO, setV_r, avV, storable, eCall_r, lrK, mkK, mkArgs, callR, wb, okRet, okErr, sRaise_r, erX, ePart_none, ePart_some, erP, slI, eSl_r, erSl, slK_r, slK2_r, cutC, oSl, isMut, putMut, setAt, mutD, reD, sItem, itemK, bName, bTup, bAll, fLen, fInt, fList, oIx, oGt, oLt, oGe, oLe, oDiv, oMod, oMul, oAdd, oSub, oPow, o2I, o2C, small, isLst, oNotN, oIsN, Za.isNon, oIn, seqD, flat_int, flats_ints, mst1, mst2, mst3, mst4, or_ite, and_ite, eKid_r, slKd, kdV, flat_str, flat_bl, flat_non, flat_ints, eqv_ints, eqvs_ints, setX, noAl, c2]
    have h3 := lcL_eq (vs := [3]) (b := bName 3) (t := tYesM) (m := eTup (lCons (eVar 2) (lCons (eVar 3) (lNil)))) (sl := [.val (LL a), .val (.int (p : Nat)), .val (.int x), .emp]) D.int (fun y => [.val (LL a), .val (.int (p : Nat)), .val (.int x), .val (.int y)]) (fun _ => true) (fun y => Za.pairD (x, y)) r (fun y _ => ⟨rfl, rfl, fun _ => ⟨.v (Za.pairD (x, y)), by simp [fnM, fin, outsOf, argS, eB_r, eV_r, op2_r, eOp2_r, erO, erO2, erB, erV, opC, retR, cont, frz, mineD, tB_r, erT, trC, tTr_r, erTr, trE, trD, truth, tAndM_r, trA, tOrM_r, trO, tNotM_r, trN, eAndV_r, trAV, eOrV_r, trOV, eNotV_r, trNV, eIf_r, trIV, eVar_r, slV, slA, eC_r, lNil_r, lCons_r, erC, lrC, eFn_r, lrF, lrF2, conts, eTup_r, lrT, lrT2, vals, eLst_r, lrL, lrL2, sSeq_r, srQ, sExpr_r, erE, sRet_r, erR, sSkip_r, sRetN_r, sIf_r, trI, sStore_r, erS, sSet_r, sOwn_r, sSetX_r, setX, setO, setV_r, avV, storable, eCall_r, lrK, mkK, mkArgs, callR, wb, okRet, okErr, sRaise_r, erX, ePart_none, ePart_some, erP, slI, eSl_r, erSl, slK_r, slK2_r, cutC, oSl, isMut, putMut, setAt, mutD, reD, sItem, itemK, bName, bTup, bAll, fLen, fInt, fList, oIx, oGt, oLt, oGe, oLe, oDiv, oMod, oMul, oAdd, oSub, oPow, o2I, o2C, small, isLst, oNotN, oIsN, Za.isNon, oIn, seqD, flat_int, flats_ints, mst1, mst2, mst3, mst4, or_ite, and_ite, eKid_r, slKd, kdV, flat_str, flat_bl, flat_non, flat_ints, eqv_ints, eqvs_ints, setX, noAl], rfl⟩, rfl⟩) (acc.map Za.pairD) (by simp [prsIn] at hm ⊢; omega)
    rw [List.map_cons]
    unfold enumD lcL2
    rw [h1]
    simp only [tYesM, h2]
    rw [show emps [3] [.val (LL a), .val (.int (p : Nat)), .val (.int x), .emp] = true from rfl]
    simp only [if_true]
    rw [h3]
    simp only []
    have e3 : acc.map Za.pairD ++ (r.filter fun _ => true).map (fun y => Za.pairD (x, y)) = (acc ++ r.map fun y => (x, y)).map Za.pairD := by
      rw [filter_tt, List.map_append, List.map_map]
      rfl
    have e4 : wipeS [1, 2, 3] [.val (LL a), .val (.int (p : Nat)), .val (.int x), .emp] = [.val (LL a), .emp, .emp, .emp] := rfl
    rw [e3, e4]
    refine (ih (p + 1) (acc ++ r.map fun y => (x, y)) hr (by simp [prsIn] at hm ⊢; omega)).trans ?_
    rw [prsIn, List.append_assoc]
theorem pairs_in_eq (a : List Int) (hl : a.length ≤ 30) : Fpairs_in [.v (LL a)] = .ok (LP (prsIn a)) true [] := by
  have hm : (prsIn a).length ≤ 1000 := by
    have := prsIn_len a
    have h2 : a.length * a.length ≤ 30 * 30 := Nat.mul_le_mul hl hl
    omega
  have h := pairs_loop a hl a 0 [] rfl (by simpa using hm)
  have hr : eLc2 (iEnumM (eVar 0)) [1, 2, 3] [3] (bTup [bName 1, bName 2]) (tYesM) (iLst (eSl (eVar 0) (some (eOp2 oAdd (eVar 1) (eC (.int 1)))) none)) (bName 3) (tYesM) (eTup (lCons (eVar 2) (lCons (eVar 3) (lNil)))) [.val (LL a), .emp, .emp, .emp] = .ok (.n (LP (prsIn a))) [.val (LL a), .emp, .emp, .emp] := by
    have hi : iEnumM (eVar 0) [.val (LL a), .emp, .emp, .emp] = .ok (enumD 0 (a.map D.int)) none [.val (LL a), .emp, .emp, .emp] := rfl
    unfold eLc2 withLk
    rw [hi]
    simp only [lcRun2]
    rw [show emps [1, 2, 3] [.val (LL a), .emp, .emp, .emp] = true from rfl]
    have h' := h
    simp only [List.map_nil, List.nil_append] at h'
    simp only [if_true, h']
    rw [show emps [1, 2, 3] [.val (LL a), .emp, .emp, .emp] = true from rfl]
    simp only [if_true]
  unfold Fpairs_in mpairs_in
  obtain ⟨E, hE⟩ : ∃ E, E = eLc2 (iEnumM (eVar 0)) [1, 2, 3] [3] (bTup [bName 1, bName 2]) (tYesM) (iLst (eSl (eVar 0) (some (eOp2 oAdd (eVar 1) (eC (.int 1)))) none)) (bName 3) (tYesM) (eTup (lCons (eVar 2) (lCons (eVar 3) (lNil)))) := ⟨_, rfl⟩
  rw [← hE] at hr ⊢
  clear hE
  simp [fnM, fin, outsOf, argS, eB_r, eV_r, op2_r, eOp2_r, erO, erO2, erB, erV, opC, retR, cont, frz, mineD, tB_r, erT, trC, tTr_r, erTr, trE, trD, truth, tAndM_r, trA, tOrM_r, trO, tNotM_r, trN, eAndV_r, trAV, eOrV_r, trOV, eNotV_r, trNV, eIf_r, trIV, eVar_r, slV, slA, eC_r, lNil_r, lCons_r, erC, lrC, eFn_r, lrF, lrF2, conts, eTup_r, lrT, lrT2, vals, eLst_r, lrL, lrL2, sSeq_r, srQ, sExpr_r, erE, sRet_r, erR, sSkip_r, sRetN_r, sIf_r, trI, sStore_r, erS, sSet_r, sOwn_r, sSetX_r, setX, setO, setV_r, avV, storable, eCall_r, lrK, mkK, mkArgs, callR, wb, okRet, okErr, sRaise_r, erX, ePart_none, ePart_some, erP, slI, eSl_r, erSl, slK_r, slK2_r, cutC, oSl, isMut, putMut, setAt, mutD, reD, sItem, itemK, bName, bTup, bAll, fLen, fInt, fList, oIx, oGt, oLt, oGe, oLe, oDiv, oMod, oMul, oAdd, oSub, oPow, o2I, o2C, small, isLst, oNotN, oIsN, Za.isNon, oIn, seqD, flat_int, flats_ints, mst1, mst2, mst3, mst4, or_ite, and_ite, eKid_r, slKd, kdV, flat_str, flat_bl, flat_non, flat_ints, eqv_ints, eqvs_ints, setX, noAl, hr]
/-- the pairs of a that stand the other way about in b -/
def turned (a b : List Int) : List (Int × Int) := (prsIn a).filter fun q => decide (ix b q.2 < ix b q.1)
theorem mem_prsIn : ∀ {a : List Int} {q : Int × Int}, q ∈ prsIn a → q.1 ∈ a ∧ q.2 ∈ a
  | [], q, h => by simp [prsIn] at h
  | x :: r, q, h => by
    simp only [prsIn, List.mem_append, List.mem_map] at h
    rcases h with ⟨y, hy, rfl⟩ | h
    · exact ⟨List.mem_cons_self, List.mem_cons_of_mem _ hy⟩
    · have := mem_prsIn h
      exact ⟨List.mem_cons_of_mem _ this.1, List.mem_cons_of_mem _ this.2⟩
theorem lt_ix {i j : Nat} : ((i : Int) < (j : Int)) = (i < j) := by simp
theorem differing_err (a b : List Int) {c : Nat} {f : String} {k : Int} (h : chk2 a b = some (c, f, k)) : Fdiffering_pairs [.v (LL a), .v (LL b)] = .err c [Str.ofString f] [.int k] [] := by
  have t := check_two_lists_eq a b
  rw [h] at t
  unfold Fdiffering_pairs mdiffering_pairs
  obtain ⟨C, hC⟩ : ∃ C, C = Fcheck_two_lists := ⟨_, rfl⟩
  rw [← hC] at t ⊢
  clear hC
  simp [fnM, fin, outsOf, argS, eB_r, eV_r, op2_r, eOp2_r, erO, erO2, erB, erV, opC, retR, cont, frz, mineD, tB_r, erT, trC, tTr_r, erTr, trE, trD, truth, tAndM_r, trA, tOrM_r, trO, tNotM_r, trN, eAndV_r, trAV, eOrV_r, trOV, eNotV_r, trNV, eIf_r, trIV, eVar_r, slV, slA, eC_r, lNil_r, lCons_r, erC, lrC, eFn_r, lrF, lrF2, conts, eTup_r, lrT, lrT2, vals, eLst_r, lrL, lrL2, sSeq_r, srQ, sExpr_r, erE, sRet_r, erR, sSkip_r, sRetN_r, sIf_r, trI, sStore_r, erS, sSet_r, sOwn_r, sSetX_r, setX, setO, setV_r, avV, storable, eCall_r, lrK, mkK, mkArgs, callR, wb, okRet, okErr, sRaise_r, erX, ePart_none, ePart_some, erP, slI, eSl_r, erSl, slK_r, slK2_r, cutC, oSl, isMut, putMut, setAt, mutD, reD, sItem, itemK, bName, bTup, bAll, fLen, fInt, fList, oIx, oGt, oLt, oGe, oLe, oDiv, oMod, oMul, oAdd, oSub, oPow, o2I, o2C, small, isLst, oNotN, oIsN, Za.isNon, oIn, seqD, flat_int, flats_ints, mst1, mst2, mst3, mst4, or_ite, and_ite, eKid_r, slKd, kdV, flat_str, flat_bl, flat_non, flat_ints, eqv_ints, eqvs_ints, setX, noAl, t]
theorem differing_eq (a b : List Int) (h : chk2 a b = none) (hl : a.length ≤ 30) (hm : ∀ k ∈ a, k ∈ b) : Fdiffering_pairs [.v (LL a), .v (LL b)] = .ok (LP (sortP (turned a b))) true [] := by
  have t := check_two_lists_eq a b
  rw [h] at t
  have pl : (prsIn a).length ≤ 1000 := by
    have := prsIn_len a
    have h2 : a.length * a.length ≤ 30 * 30 := Nat.mul_le_mul hl hl
    omega
  have h1 : eLc (iLst (eCall Fpairs_in [false] (lCons (eVar 0) (lNil)))) [2, 3] (bTup [bName 2, bName 3]) (tB (eOp2 oLt (eMeth isLK mIndex (eVar 1) (lCons (eVar 3) (lNil))) (eMeth isLK mIndex (eVar 1) (lCons (eVar 2) (lNil))))) (eTup (lCons (eVar 2) (lCons (eVar 3) (lNil)))) [.val (LL a), .val (LL b), .emp, .emp] = .ok (.n (LP (turned a b))) [.val (LL a), .val (LL b), .emp, .emp] := by
    refine eLc_eq (sl := [.val (LL a), .val (LL b), .emp, .emp]) Za.pairD (fun q => [.val (LL a), .val (LL b), .val (.int q.1), .val (.int q.2)]) (fun q => decide (ix b q.2 < ix b q.1)) Za.pairD (prsIn a) ?_ rfl (fun q hq => ⟨rfl, ?_, fun _ => ⟨.v (Za.pairD q), ?_, rfl⟩, rfl⟩) pl
    · have := pairs_in_eq a hl
      obtain ⟨I, hI⟩ : ∃ I, I = Fpairs_in := ⟨_, rfl⟩
      rw [← hI] at this ⊢
      clear hI
      simp [iLst, fnM, fin, outsOf, argS, eB_r, eV_r, op2_r, eOp2_r, erO, erO2, erB, erV, opC, retR, cont, frz, mineD, tB_r, erT, trC, tTr_r, erTr, trE, trD, truth, tAndM_r, trA, tOrM_r, trO, tNotM_r, trN, eAndV_r, trAV, eOrV_r, trOV, eNotV_r, trNV, eIf_r, trIV, eVar_r, slV, slA, eC_r, lNil_r, lCons_r, erC, lrC, eFn_r, lrF, lrF2, conts, eTup_r, lrT, lrT2, vals, eLst_r, lrL, lrL2, sSeq_r, srQ, sExpr_r, erE, sRet_r, erR, sSkip_r, sRetN_r, sIf_r, trI, sStore_r, erS, sSet_r, sOwn_r, sSetX_r, setX, setO, setV_r, avV, storable, eCall_r, lrK, mkK, mkArgs, callR, wb, okRet, okErr, sRaise_r, erX, ePart_none, ePart_some, erP, slI, eSl_r, erSl, slK_r, slK2_r, cutC, oSl, isMut, putMut, setAt, mutD, reD, sItem, itemK, bName, bTup, bAll, fLen, fInt, fList, oIx, oGt, oLt, oGe, oLe, oDiv, oMod, oMul, oAdd, oSub, oPow, o2I, o2C, small, isLst, oNotN, oIsN, Za.isNon, oIn, seqD, flat_int, flats_ints, mst1, mst2, mst3, mst4, or_ite, and_ite, eKid_r, slKd, kdV, flat_str, flat_bl, flat_non, flat_ints, eqv_ints, eqvs_ints, setX, noAl, this]
    · have q1 := index_eq (hm _ (mem_prsIn hq).1)
      have q2 := index_eq (hm _ (mem_prsIn hq).2)
      simp [fnM, fin, outsOf, argS, eB_r, eV_r, op2_r, eOp2_r, erO, erO2, erB, erV, opC, retR, cont, frz, mineD, tB_r, erT, trC, tTr_r, erTr, trE, trD, truth, tAndM_r, trA, tOrM_r, trO, tNotM_r, trN, eAndV_r, trAV, eOrV_r, trOV, eNotV_r, trNV, eIf_r, trIV, eVar_r, slV, slA, eC_r, lNil_r, lCons_r, erC, lrC, eFn_r, lrF, lrF2, conts, eTup_r, lrT, lrT2, vals, eLst_r, lrL, lrL2, sSeq_r, srQ, sExpr_r, erE, sRet_r, erR, sSkip_r, sRetN_r, sIf_r, trI, sStore_r, erS, sSet_r, sOwn_r, sSetX_r, setX, setO, setV_r, avV, storable, eCall_r, lrK, mkK, mkArgs, callR, wb, okRet, okErr, sRaise_r, erX, ePart_none, ePart_some, erP, slI, eSl_r, erSl, slK_r, slK2_r, cutC, oSl, isMut, putMut, setAt, mutD, reD, sItem, itemK, bName, bTup, bAll, fLen, fInt, fList, oIx, oGt, oLt, oGe, oLe, oDiv, oMod, oMul, oAdd, oSub, oPow, o2I, o2C, small, isLst, oNotN, oIsN, Za.isNon, oIn, seqD, flat_int, flats_ints, mst1, mst2, mst3, mst4, or_ite, and_ite, eKid_r, slKd, kdV, flat_str, flat_bl, flat_non, flat_ints, eqv_ints, eqvs_ints, setX, noAl, eMeth, isLK, q1, q2, lt_ix]
    · simp [fnM, fin, outsOf, argS, eB_r, eV_r, op2_r, eOp2_r, erO, erO2, erB, erV, opC, retR, cont, frz, mineD, tB_r, erT, trC, tTr_r, erTr, trE, trD, truth, tAndM_r, trA, tOrM_r, trO, tNotM_r, trN, eAndV_r, trAV, eOrV_r, trOV, eNotV_r, trNV, eIf_r, trIV, eVar_r, slV, slA, eC_r, lNil_r, lCons_r, erC, lrC, eFn_r, lrF, lrF2, conts, eTup_r, lrT, lrT2, vals, eLst_r, lrL, lrL2, sSeq_r, srQ, sExpr_r, erE, sRet_r, erR, sSkip_r, sRetN_r, sIf_r, trI, sStore_r, erS, sSet_r, sOwn_r, sSetX_r, setX, setO, setV_r, avV, storable, eCall_r, lrK, mkK, mkArgs, callR, wb, okRet, okErr, sRaise_r, erX, ePart_none, ePart_some, erP, slI, eSl_r, erSl, slK_r, slK2_r, cutC, oSl, isMut, putMut, setAt, mutD, reD, sItem, itemK, bName, bTup, bAll, fLen, fInt, fList, oIx, oGt, oLt, oGe, oLe, oDiv, oMod, oMul, oAdd, oSub, oPow, o2I, o2C, small, isLst, oNotN, oIsN, Za.isNon, oIn, seqD, flat_int, flats_ints, mst1, mst2, mst3, mst4, or_ite, and_ite, eKid_r, slKd, kdV, flat_str, flat_bl, flat_non, flat_ints, eqv_ints, eqvs_ints, setX, noAl]
  unfold Fdiffering_pairs mdiffering_pairs
  obtain ⟨E, hE⟩ : ∃ E, E = eLc (iLst (eCall Fpairs_in [false] (lCons (eVar 0) (lNil)))) [2, 3] (bTup [bName 2, bName 3]) (tB (eOp2 oLt (eMeth isLK mIndex (eVar 1) (lCons (eVar 3) (lNil))) (eMeth isLK mIndex (eVar 1) (lCons (eVar 2) (lNil))))) (eTup (lCons (eVar 2) (lCons (eVar 3) (lNil)))) := ⟨_, rfl⟩
  obtain ⟨C, hC⟩ : ∃ C, C = Fcheck_two_lists := ⟨_, rfl⟩
  rw [← hE] at h1 ⊢
  rw [← hC] at t ⊢
  clear hE hC
  simp [fnM, fin, outsOf, argS, eB_r, eV_r, op2_r, eOp2_r, erO, erO2, erB, erV, opC, retR, cont, frz, mineD, tB_r, erT, trC, tTr_r, erTr, trE, trD, truth, tAndM_r, trA, tOrM_r, trO, tNotM_r, trN, eAndV_r, trAV, eOrV_r, trOV, eNotV_r, trNV, eIf_r, trIV, eVar_r, slV, slA, eC_r, lNil_r, lCons_r, erC, lrC, eFn_r, lrF, lrF2, conts, eTup_r, lrT, lrT2, vals, eLst_r, lrL, lrL2, sSeq_r, srQ, sExpr_r, erE, sRet_r, erR, sSkip_r, sRetN_r, sIf_r, trI, sStore_r, erS, sSet_r, sOwn_r, sSetX_r, setX, setO, setV_r, avV, storable, eCall_r, lrK, mkK, mkArgs, callR, wb, okRet, okErr, sRaise_r, erX, ePart_none, ePart_some, erP, slI, eSl_r, erSl, slK_r, slK2_r, cutC, oSl, isMut, putMut, setAt, mutD, reD, sItem, itemK, bName, bTup, bAll, fLen, fInt, fList, oIx, oGt, oLt, oGe, oLe, oDiv, oMod, oMul, oAdd, oSub, oPow, o2I, o2C, small, isLst, oNotN, oIsN, Za.isNon, oIn, seqD, flat_int, flats_ints, mst1, mst2, mst3, mst4, or_ite, and_ite, eKid_r, slKd, kdV, flat_str, flat_bl, flat_non, flat_ints, eqv_ints, eqvs_ints, setX, noAl, h1, t, fSortP, prsD_map]
end Zk06
end
section
set_option linter.all false
set_option maxRecDepth 10000
namespace Zk06
open PySem PySem.Spec PyProof.Rows L2 Za
def difC (a b : List Int) (x y : Int) : Bool := decide (ix a x < ix a y) && decide (ix b y < ix b x)
def difR (a b ys : List Int) (x : Int) : List (Int × Int) := (ys.filter (difC a b x)).map fun y => (x, y)
def rows (a b : List Int) : List (Int × Int) := (sortI a).flatMap (difR a b (sortI a))
def difIn : SM := (sIf (tAndM (tB (eOp2 oLt (eMeth isLK mIndex (eVar 0) (lCons (eVar 3) (lNil))) (eMeth isLK mIndex (eVar 0) (lCons (eVar 4) (lNil))))) (tB (eOp2 oLt (eMeth isLK mIndex (eVar 1) (lCons (eVar 4) (lNil))) (eMeth isLK mIndex (eVar 1) (lCons (eVar 3) (lNil)))))) (sExpr (eMut 2 uAppend (lCons (eTup (lCons (eVar 3) (lCons (eVar 4) (lNil)))) (lNil)))) (sSkip))
theorem appendP_eq (xs : List (Int × Int)) (y : Int × Int) (h : xs.length ≤ 1000) : uAppend (LP xs) [Za.pairD y] = some (LP (xs ++ [y]), .non) := by
  show (if (xs.map Za.pairD).length ≤ most then some (D.lst (xs.map Za.pairD ++ [Za.pairD y]), D.non) else none) = _
  rw [if_pos (by rw [List.length_map]; exact le_most h)]
  simp
theorem difIn_eq (a b : List Int) (r : List (Int × Int)) (x y : Int) (hx : x ∈ a) (hy : y ∈ a) (hx' : x ∈ b) (hy' : y ∈ b) (hl : r.length ≤ 1000) : difIn [.val (LL a), .val (LL b), .own (LP r), .val (.int x), .val (.int y)] = .nx [.val (LL a), .val (LL b), .own (LP (if difC a b x y = true then r ++ [(x, y)] else r)), .val (.int x), .val (.int y)] := by
  have q1 := index_eq hx
  have q2 := index_eq hy
  have q3 := index_eq hx'
  have q4 := index_eq hy'
  have m : (sExpr (eMut 2 uAppend (lCons (eTup (lCons (eVar 3) (lCons (eVar 4) (lNil)))) (lNil)))) [.val (LL a), .val (LL b), .own (LP r), .val (.int x), .val (.int y)] = .nx [.val (LL a), .val (LL b), .own (LP (r ++ [(x, y)])), .val (.int x), .val (.int y)] := by
    refine sExpr_eq (eMut_eq (i := 2) (f := uAppend) (s := .own (LP r)) (d := LP r) (s' := .own (LP r)) (d' := LP r) (sl' := [.val (LL a), .val (LL b), .own (LP r), .val (.int x), .val (.int y)]) (as := [.v (Za.pairD (x, y))]) rfl rfl rfl ?_ rfl rfl rfl rfl (appendP_eq r (x, y) hl))
    simp [fnM, fin, outsOf, argS, eB_r, eV_r, op2_r, eOp2_r, erO, erO2, erB, erV, opC, retR, cont, frz, mineD, tB_r, erT, trC, tTr_r, erTr, trE, trD, truth, tAndM_r, trA, tOrM_r, trO, tNotM_r, trN, eAndV_r, trAV, eOrV_r, trOV, eNotV_r, trNV, eIf_r, trIV, eVar_r, slV, slA, eC_r, lNil_r, lCons_r, erC, lrC, eFn_r, lrF, lrF2, conts, eTup_r, lrT, lrT2, vals, eLst_r, lrL, lrL2, sSeq_r, srQ, sExpr_r, erE, sRet_r, erR, sSkip_r, sRetN_r, sIf_r, trI, sStore_r, erS, sSet_r, sOwn_r, sSetX_r, setX, setO, setV_r, avV, storable, eCall_r, lrK, mkK, mkArgs, callR, wb, okRet, okErr, sRaise_r, erX, ePart_none, ePart_some, erP, slI, eSl_r, erSl, slK_r, slK2_r, cutC, oSl, isMut, putMut, setAt, mutD, reD, sItem, itemK, bName, bTup, bAll, fLen, fInt, fList, oIx, oGt, oLt, oGe, oLe, oDiv, oMod, oMul, oAdd, oSub, oPow, o2I, o2C, small, isLst, oNotN, oIsN, Za.isNon, oIn, seqD, flat_int, flats_ints, mst1, mst2, mst3, mst4, or_ite, and_ite, eKid_r, slKd, kdV, flat_str, flat_bl, flat_non, flat_ints, eqv_ints, eqvs_ints, setX, noAl]
  unfold difIn
  rw [sIf_r]
  have t : (tAndM (tB (eOp2 oLt (eMeth isLK mIndex (eVar 0) (lCons (eVar 3) (lNil))) (eMeth isLK mIndex (eVar 0) (lCons (eVar 4) (lNil))))) (tB (eOp2 oLt (eMeth isLK mIndex (eVar 1) (lCons (eVar 4) (lNil))) (eMeth isLK mIndex (eVar 1) (lCons (eVar 3) (lNil)))))) [.val (LL a), .val (LL b), .own (LP r), .val (.int x), .val (.int y)] = .ok (difC a b x y) [.val (LL a), .val (LL b), .own (LP r), .val (.int x), .val (.int y)] := by
    simp [fnM, fin, outsOf, argS, eB_r, eV_r, op2_r, eOp2_r, erO, erO2, erB, erV, opC, retR, cont, frz, mineD, tB_r, erT, trC, tTr_r, erTr, trE, trD, truth, tAndM_r, trA, tOrM_r, trO, tNotM_r, trN, eAndV_r, trAV, eOrV_r, trOV, eNotV_r, trNV, eIf_r, trIV, eVar_r, slV, slA, eC_r, lNil_r, lCons_r, erC, lrC, eFn_r, lrF, lrF2, conts, eTup_r, lrT, lrT2, vals, eLst_r, lrL, lrL2, sSeq_r, srQ, sExpr_r, erE, sRet_r, erR, sSkip_r, sRetN_r, sIf_r, trI, sStore_r, erS, sSet_r, sOwn_r, sSetX_r, setX, setO, setV_r, avV, storable, eCall_r, lrK, mkK, mkArgs, callR, wb, okRet, okErr, sRaise_r, erX, ePart_none, ePart_some, erP, slI, eSl_r, erSl, slK_r, slK2_r, cutC, oSl, isMut, putMut, setAt, mutD, reD, sItem, itemK, bName, bTup, bAll, fLen, fInt, fList, oIx, oGt, oLt, oGe, oLe, oDiv, oMod, oMul, oAdd, oSub, oPow, o2I, o2C, small, isLst, oNotN, oIsN, Za.isNon, oIn, seqD, flat_int, flats_ints, mst1, mst2, mst3, mst4, or_ite, and_ite, eKid_r, slKd, kdV, flat_str, flat_bl, flat_non, flat_ints, eqv_ints, eqvs_ints, setX, noAl, eMeth, isLK, q1, q2, q3, q4, lt_ix, difC]
  rw [t]
  unfold trI
  simp only []
  by_cases h : difC a b x y = true
  · rw [if_pos h, if_pos h, m]
  · rw [if_neg h, if_neg h]; rfl
theorem dif_in_loop (a b : List Int) (x : Int) (hx : x ∈ a) (hab : ∀ k ∈ a, k ∈ b) : ∀ (ys : List Int) (r : List (Int × Int)) (s4 : Za.Slot), (∀ y ∈ ys, y ∈ a) → free s4 → r.length + ys.length ≤ 1000 →
    ∃ t4, free t4 ∧ forL (fun _ => true) (bName 4) difIn (ys.map D.int) [.val (LL a), .val (LL b), .own (LP r), .val (.int x), s4] = .nx [.val (LL a), .val (LL b), .own (LP (r ++ difR a b ys x)), .val (.int x), t4] := by
  intro ys
  induction ys with
  | nil => intro r s4 _ f _; exact ⟨s4, f, by simp [difR, forL]⟩
  | cons y ys ih =>
    intro r s4 hy f hl
    have hb : bName 4 (.int y) [.val (LL a), .val (LL b), .own (LP r), .val (.int x), s4] = some [.val (LL a), .val (LL b), .own (LP r), .val (.int x), .val (.int y)] := by
      rcases f with rfl | ⟨d, rfl⟩ <;> simp [bName, storable]
    have ya := hy y List.mem_cons_self
    have st := difIn_eq a b r x y hx ya (hab _ hx) (hab _ ya) (by simp at hl; omega)
    obtain ⟨t4, g, e⟩ := ih (if difC a b x y = true then r ++ [(x, y)] else r) (.val (.int y)) (fun z hz => hy z (List.mem_cons_of_mem _ hz)) (.inr ⟨_, rfl⟩) (by simp at hl; split <;> (try simp) <;> omega)
    refine ⟨t4, g, ?_⟩
    rw [List.map_cons, forL_cons _ _ _ _ _ hb st rfl, e]
    congr 5
    unfold difR
    by_cases h : difC a b x y = true
    · rw [if_pos h, List.filter_cons_of_pos h]; simp
    · rw [if_neg h, List.filter_cons_of_neg h]
def difOut : SM := sFor (iLst (eFn fSortI (lCons (eVar 0) lNil))) (bName 4) difIn
theorem sorted_items {n : Nat} {a : List Int} {sl : List Za.Slot} (h : sl[0]? = some (.val (LL a))) : iLst (eFn fSortI (lCons (eVar 0) lNil)) sl = .ok ((sortI a).map D.int) none sl := by
  simp [iLst, fnM, fin, outsOf, argS, eB_r, eV_r, op2_r, eOp2_r, erO, erO2, erB, erV, opC, retR, cont, frz, mineD, tB_r, erT, trC, tTr_r, erTr, trE, trD, truth, tAndM_r, trA, tOrM_r, trO, tNotM_r, trN, eAndV_r, trAV, eOrV_r, trOV, eNotV_r, trNV, eIf_r, trIV, eVar_r, slV, slA, eC_r, lNil_r, lCons_r, erC, lrC, eFn_r, lrF, lrF2, conts, eTup_r, lrT, lrT2, vals, eLst_r, lrL, lrL2, sSeq_r, srQ, sExpr_r, erE, sRet_r, erR, sSkip_r, sRetN_r, sIf_r, trI, sStore_r, erS, sSet_r, sOwn_r, sSetX_r, setX, setO, setV_r, avV, storable, eCall_r, lrK, mkK, mkArgs, callR, wb, okRet, okErr, sRaise_r, erX, ePart_none, ePart_some, erP, slI, eSl_r, erSl, slK_r, slK2_r, cutC, oSl, isMut, putMut, setAt, mutD, reD, sItem, itemK, bName, bTup, bAll, fLen, fInt, fList, oIx, oGt, oLt, oGe, oLe, oDiv, oMod, oMul, oAdd, oSub, oPow, o2I, o2C, small, isLst, oNotN, oIsN, Za.isNon, oIn, seqD, flat_int, flats_ints, mst1, mst2, mst3, mst4, or_ite, and_ite, eKid_r, slKd, kdV, flat_str, flat_bl, flat_non, flat_ints, eqv_ints, eqvs_ints, setX, noAl, h, fSortI, intsD_map]
theorem difR_len (a b ys : List Int) (x : Int) : (difR a b ys x).length ≤ ys.length := by
  unfold difR
  rw [List.length_map]
  exact List.length_filter_le _ _
theorem dif_loop (a b : List Int) (hl : a.length ≤ 30) (hab : ∀ k ∈ a, k ∈ b) : ∀ (xs : List Int) (r : List (Int × Int)) (s3 s4 : Za.Slot), (∀ y ∈ xs, y ∈ a) → free s3 → free s4 → r.length + xs.length * 30 ≤ 900 →
    ∃ t3 t4, free t3 ∧ free t4 ∧ forL (fun _ => true) (bName 3) difOut (xs.map D.int) [.val (LL a), .val (LL b), .own (LP r), s3, s4] = .nx [.val (LL a), .val (LL b), .own (LP (r ++ xs.flatMap (difR a b (sortI a)))), t3, t4] := by
  intro xs
  induction xs with
  | nil => intro r s3 s4 _ f3 f4 _; exact ⟨s3, s4, f3, f4, by simp [forL]⟩
  | cons x xs ih =>
    intro r s3 s4 hx f3 f4 hr
    have hb : bName 3 (.int x) [.val (LL a), .val (LL b), .own (LP r), s3, s4] = some [.val (LL a), .val (LL b), .own (LP r), .val (.int x), s4] := by
      rcases f3 with rfl | ⟨d, rfl⟩ <;> simp [bName, storable]
    have xa := hx x List.mem_cons_self
    have sl : (sortI a).length = a.length := (sortI_perm a).length_eq
    obtain ⟨t4, g4, e⟩ := dif_in_loop a b x xa hab (sortI a) r s4 (fun y hy => (sortI_perm a).mem_iff.mp hy) f4 (by simp at hr; omega)
    have st : difOut [.val (LL a), .val (LL b), .own (LP r), .val (.int x), s4] = .nx [.val (LL a), .val (LL b), .own (LP (r ++ difR a b (sortI a) x)), .val (.int x), t4] := by
      unfold difOut
      rw [sFor_none (sorted_items (n := 0) (a := a) rfl), e]
    have ln := difR_len a b (sortI a) x
    obtain ⟨t3, t4', g3, g4', e'⟩ := ih (r ++ difR a b (sortI a) x) (.val (.int x)) t4 (fun z hz => hx z (List.mem_cons_of_mem _ hz)) (.inr ⟨_, rfl⟩) g4 (by simp at hr ⊢; omega)
    refine ⟨t3, t4', g3, g4', ?_⟩
    rw [List.map_cons, forL_cons _ _ _ _ _ hb st rfl, e', List.flatMap_cons, List.append_assoc]
theorem law_differing_eq (a b : List Int) (hl : a.length ≤ 30) (hab : ∀ k ∈ a, k ∈ b) : F_law_differing [.v (LL a), .v (LL b)] = .ok (LP (rows a b)) true [] := by
  have sl : (sortI a).length = a.length := (sortI_perm a).length_eq
  obtain ⟨t3, t4, _, _, e⟩ := dif_loop a b hl hab (sortI a) [] .emp .emp (fun y hy => (sortI_perm a).mem_iff.mp hy) (.inl rfl) (.inl rfl) (by simp; omega)
  have hm : m_law_differing = sSeq (sOwn 2 (eLst (lNil))) (sSeq (sFor (iLst (eFn fSortI (lCons (eVar 0) lNil))) (bName 3) difOut) (sRet (eVar 2))) := rfl
  have h : m_law_differing [.val (LL a), .val (LL b), .emp, .emp, .emp] = .ret (.s 2) [.val (LL a), .val (LL b), .own (LP (rows a b)), t3, t4] := by
    rw [hm, sSeq_nx (s1 := [.val (LL a), .val (LL b), .own (.lst []), .emp, .emp]) (own_nil rfl)]
    have e2 := (sFor_none (y := bName 3) (z := difOut) (sorted_items (n := 0) (a := a) (sl := [.val (LL a), .val (LL b), .own (.lst []), .emp, .emp]) rfl)).trans e
    rw [sSeq_nx e2]
    rfl
  unfold F_law_differing
  refine (fnM_eq (n := 5) (args := [.v (LL a), .v (LL b)]) (sl := [.val (LL a), .val (LL b), .emp, .emp, .emp]) rfl h).trans ?_
  rfl
/-! the two lists of pairs are one -/
abbrev ltP (a b : Int × Int) : Prop := a.1 < b.1 ∨ (a.1 = b.1 ∧ a.2 < b.2)
theorem strict_uniqP : ∀ {l m : List (Int × Int)}, l.Pairwise ltP → m.Pairwise ltP → (∀ k, k ∈ l ↔ k ∈ m) → l = m
  | [], [], _, _, _ => rfl
  | [], y :: m, _, _, h => by have := (h y).mpr List.mem_cons_self; simp at this
  | x :: l, [], _, _, h => by have := (h x).mp List.mem_cons_self; simp at this
  | x :: l, y :: m, h1, h2, h => by
    obtain ⟨a1, a2⟩ := List.pairwise_cons.mp h1
    obtain ⟨b1, b2⟩ := List.pairwise_cons.mp h2
    have irr : ∀ z : Int × Int, ¬ ltP z z := fun z q => by unfold ltP at q; omega
    have asy : ∀ z w : Int × Int, ltP z w → ¬ ltP w z := fun z w q q' => by unfold ltP at q q'; omega
    have e : x = y := by
      rcases List.mem_cons.mp ((h x).mp List.mem_cons_self) with q | q
      · exact q
      · rcases List.mem_cons.mp ((h y).mpr List.mem_cons_self) with q' | q'
        · exact q'.symm
        · exact absurd (b1 x q) (asy _ _ (a1 y q'))
    subst e
    rw [strict_uniqP a2 b2 fun k => ?_]
    have hk := h k
    rw [List.mem_cons, List.mem_cons] at hk
    exact ⟨fun z => (hk.mp (.inr z)).elim (fun e => by subst e; exact absurd (a1 k z) (irr k)) id, fun z => (hk.mpr (.inr z)).elim (fun e => by subst e; exact absurd (b1 k z) (irr k)) id⟩
theorem prsIn_nodup : ∀ {a : List Int}, a.Nodup → (prsIn a).Nodup
  | [], _ => by simp [prsIn]
  | x :: r, h => by
    obtain ⟨h1, h2⟩ := List.nodup_cons.mp h
    unfold prsIn
    rw [List.nodup_append]
    refine ⟨?_, prsIn_nodup h2, ?_⟩
    · rw [List.nodup_iff_pairwise_ne, List.pairwise_map]
      refine (List.nodup_iff_pairwise_ne.mp h2).imp ?_
      intro u v q e
      exact q (by injection e)
    · intro p hp q hq e
      subst e
      rw [List.mem_map] at hp
      obtain ⟨y, _, rfl⟩ := hp
      exact h1 (mem_prsIn hq).1
theorem mem_prsIn_iff : ∀ {a : List Int}, a.Nodup → ∀ q : Int × Int, q ∈ prsIn a ↔ (q.1 ∈ a ∧ q.2 ∈ a ∧ ix a q.1 < ix a q.2)
  | [], _, q => by simp [prsIn]
  | x :: r, h, q => by
    obtain ⟨h1, h2⟩ := List.nodup_cons.mp h
    have ih := mem_prsIn_iff h2 q
    simp only [prsIn, List.mem_append, List.mem_map, ih, ix_cons, List.mem_cons]
    constructor
    · rintro (⟨y, hy, rfl⟩ | ⟨h3, h4, h5⟩)
      · have ne : x ≠ y := fun e => h1 (e ▸ hy)
        exact ⟨.inl rfl, .inr hy, by simp [ne]⟩
      · have n1 : x ≠ q.1 := fun e => h1 (e ▸ h3)
        have n2 : x ≠ q.2 := fun e => h1 (e ▸ h4)
        exact ⟨.inr h3, .inr h4, by rw [if_neg n1, if_neg n2]; omega⟩
    · rintro ⟨h3, h4, h5⟩
      by_cases e1 : x = q.1
      · have n2 : x ≠ q.2 := fun e => by rw [if_pos e1, if_pos e] at h5; omega
        rcases h4 with e | h4
        · exact absurd e.symm n2
        · exact .inl ⟨q.2, h4, by rw [e1]⟩
      · rw [if_neg e1] at h5
        by_cases e2 : x = q.2
        · rw [if_pos e2] at h5; omega
        · rw [if_neg e2] at h5
          refine .inr ⟨h3.elim (fun e => absurd e.symm e1) id, h4.elim (fun e => absurd e.symm e2) id, by omega⟩
theorem rows_strict (a b ys : List Int) (hy : ys.Pairwise (· < ·)) : ∀ xs : List Int, xs.Pairwise (· < ·) → (xs.flatMap (difR a b ys)).Pairwise ltP
  | [], _ => by simp
  | x :: xs, h => by
    obtain ⟨h1, h2⟩ := List.pairwise_cons.mp h
    rw [List.flatMap_cons, List.pairwise_append]
    refine ⟨?_, rows_strict a b ys hy xs h2, ?_⟩
    · unfold difR
      rw [List.pairwise_map]
      exact (hy.filter _).imp fun q => .inr ⟨rfl, q⟩
    · intro p hp q hq
      unfold difR at hp
      rw [List.mem_map] at hp
      obtain ⟨y, _, rfl⟩ := hp
      rw [List.mem_flatMap] at hq
      obtain ⟨z, hz, hq⟩ := hq
      unfold difR at hq
      rw [List.mem_map] at hq
      obtain ⟨w, _, rfl⟩ := hq
      exact .inl (h1 z hz)
theorem sortI_strict {a : List Int} (h : a.Nodup) : (sortI a).Pairwise (· < ·) :=
  lt_of_le_nodup _ (sortI_sorted a) ((sortI_perm a).nodup_iff.mpr h)
theorem rows_eq {a : List Int} (b : List Int) (h : a.Nodup) : rows a b = sortP (turned a b) := by
  refine strict_uniqP (rows_strict a b _ (sortI_strict h) _ (sortI_strict h)) ?_ fun q => ?_
  · have h1 := sortP_sorted (turned a b)
    have h2 : (sortP (turned a b)).Nodup := (sortP_perm _).nodup_iff.mpr ((prsIn_nodup h).filter _)
    rw [List.nodup_iff_pairwise_ne] at h2
    refine (h1.and h2).imp ?_
    rintro ⟨a1, a2⟩ ⟨b1, b2⟩ ⟨q, ne⟩
    unfold leP at q
    unfold ltP
    rcases q with q | ⟨q1, q2⟩
    · exact .inl q
    · refine .inr ⟨q1, ?_⟩
      have : a2 ≠ b2 := fun e => ne (by simp at q1; rw [q1, e])
      simp at q2 ⊢
      omega
  · rw [(sortP_perm _).mem_iff]
    unfold rows turned
    simp only [List.mem_flatMap, difR, List.mem_map, List.mem_filter, difC, Bool.and_eq_true, decide_eq_true_eq, (sortI_perm a).mem_iff, mem_prsIn_iff h]
    constructor
    · rintro ⟨x, hx, y, ⟨hy, c1, c2⟩, rfl⟩
      exact ⟨⟨hx, hy, c1⟩, c2⟩
    · rintro ⟨⟨h1, h2, h3⟩, h4⟩
      exact ⟨q.1, h1, q.2, ⟨h2, h3, h4⟩, rfl⟩
end Zk06
end
section
set_option linter.all false
set_option maxRecDepth 10000
namespace Zk06
open PySem PySem.Spec PyProof.Rows L2 Za
/-! what a list that is not wrong is -/
theorem wrS_some {xs : List Int} : ∀ (ds : List Int) (p : Nat), (∀ i (h : i < ds.length), wrongAt xs (p + i) ds[i] = false) → wrS xs p ds = none := by
  intro ds
  induction ds with
  | nil => intro p _; rfl
  | cons k ds ih =>
    intro p h
    have h0 := h 0 (by simp)
    simp at h0
    rw [wrS_cons, if_neg (by simp [h0])]
    refine ih (p + 1) fun i hi => ?_
    have := h (i + 1) (by simpa using hi)
    rw [show p + (i + 1) = p + 1 + i by omega] at this
    simpa using this
structure Fit (xs : List Int) : Prop where
  len : xs.length ≤ 12
  nd : xs.Nodup
  lo : ∀ k ∈ xs, 0 ≤ k ∧ k ≤ 9999
theorem wr_iff {xs : List Int} : wr xs = none ↔ Fit xs := by
  constructor
  · intro h
    have f := wr_none h
    refine ⟨f.len, f.nd, fun k hk => ?_⟩
    obtain ⟨i, hi, rfl⟩ := List.getElem_of_mem hk
    have := wrS_none xs 0 h i hi
    simp [wrongAt] at this
    omega
  · intro f
    refine wrS_some xs 0 fun i hi => ?_
    have l := f.len
    have b := f.lo _ (List.getElem_mem hi)
    simp [wrongAt]
    refine ⟨by omega, by omega, by omega, ?_⟩
    intro hm
    rw [List.mem_take_iff_getElem] at hm
    obtain ⟨j, hj, e⟩ := hm
    have := (List.getElem_inj (h₀ := by omega) (h₁ := hi) f.nd).mp e
    omega
theorem Fit.perm {xs ys : List Int} (f : Fit xs) (p : ys.Perm xs) : Fit ys :=
  ⟨by rw [p.length_eq]; exact f.len, p.nodup_iff.mpr f.nd, fun k hk => f.lo k (p.mem_iff.mp hk)⟩
theorem exch_zero (x y : Int) (r : List Int) : exch (x :: y :: r) 0 = y :: x :: r := by simp [exch]
theorem exch_succ (z : Int) (l : List Int) (i : Nat) : exch (z :: l) (i + 1) = z :: exch l i := by simp [exch]
theorem exch_perm : ∀ (a : List Int) (i : Nat), i + 1 < a.length → (exch a i).Perm a
  | x :: y :: r, 0, _ => by rw [exch_zero]; exact .swap _ _ _
  | z :: l, i + 1, h => by rw [exch_succ]; exact (exch_perm l i (by simpa using h)).cons z
  | [x], 0, h => by simp at h
  | [], _, h => by simp at h
/-! the first two neighbours that stand the other way about -/
def turnAt (b o : List Int) (p : Nat) : Bool := decide (ix b (o.getD (p + 1) 0) < ix b (o.getD p 0))
def ft (b o : List Int) : Option Nat := ((List.range (o.length - 1)).filter (turnAt b o)).head?
def ftBody : SM := (sIf (tB (eOp2 oLt (eMeth isLK mIndex (eVar 1) (lCons (eOp2 oIx (eVar 0) (eOp2 oAdd (eVar 2) (eC (.int 1)))) (lNil))) (eMeth isLK mIndex (eVar 1) (lCons (eOp2 oIx (eVar 0) (eVar 2)) (lNil))))) (sRet (eVar 2)) (sSkip))
theorem getD_mem {o : List Int} {p : Nat} (h : p < o.length) : o.getD p 0 ∈ o := by
  rw [List.getD_eq_getElem?_getD, List.getElem?_eq_getElem h]; exact List.getElem_mem h
theorem ftBody_eq (b o : List Int) (p : Nat) (h : p + 1 < o.length) (hm : ∀ k ∈ o, k ∈ b) : ftBody [.val (LL o), .val (LL b), .val (.int (p : Int))] = if turnAt b o p = true then .ret (.v (.int (p : Int))) [.val (LL o), .val (LL b), .val (.int (p : Int))] else .nx [.val (LL o), .val (LL b), .val (.int (p : Int))] := by
  have h1 := at_getD o p (by omega)
  have h2 := at_getD o (p + 1) h
  have e : ((p : Int) + 1) = ((p + 1 : Nat) : Int) := by omega
  simp only [← e] at h2
  have q1 := index_eq (hm _ (getD_mem (o := o) (p := p) (by omega)))
  have q2 := index_eq (hm _ (getD_mem (o := o) (p := p + 1) h))
  unfold turnAt
  generalize o.getD (p + 1) 0 = y at *
  generalize o.getD p 0 = x at *
  simp [ftBody, fnM, fin, outsOf, argS, eB_r, eV_r, op2_r, eOp2_r, erO, erO2, erB, erV, opC, retR, cont, frz, mineD, tB_r, erT, trC, tTr_r, erTr, trE, trD, truth, tAndM_r, trA, tOrM_r, trO, tNotM_r, trN, eAndV_r, trAV, eOrV_r, trOV, eNotV_r, trNV, eIf_r, trIV, eVar_r, slV, slA, eC_r, lNil_r, lCons_r, erC, lrC, eFn_r, lrF, lrF2, conts, eTup_r, lrT, lrT2, vals, eLst_r, lrL, lrL2, sSeq_r, srQ, sExpr_r, erE, sRet_r, erR, sSkip_r, sRetN_r, sIf_r, trI, sStore_r, erS, sSet_r, sOwn_r, sSetX_r, setX, setO, setV_r, avV, storable, eCall_r, lrK, mkK, mkArgs, callR, wb, okRet, okErr, sRaise_r, erX, ePart_none, ePart_some, erP, slI, eSl_r, erSl, slK_r, slK2_r, cutC, oSl, isMut, putMut, setAt, mutD, reD, sItem, itemK, bName, bTup, bAll, fLen, fInt, fList, oIx, oGt, oLt, oGe, oLe, oDiv, oMod, oMul, oAdd, oSub, oPow, o2I, o2C, small, isLst, oNotN, oIsN, Za.isNon, oIn, seqD, flat_int, flats_ints, mst1, mst2, mst3, mst4, or_ite, and_ite, eKid_r, slKd, kdV, flat_str, flat_bl, flat_non, flat_ints, eqv_ints, eqvs_ints, setX, noAl, eMeth, isLK, h1, h2, q1, q2, lt_ix]
theorem ft_loop (b o : List Int) (hm : ∀ k ∈ o, k ∈ b) : ∀ (n p : Nat) (s : Za.Slot), free s → p + n + 1 ≤ o.length → ∃ t, free t ∧ forL (fun _ => true) (bName 2) ftBody (rngD (p : Int) n) [.val (LL o), .val (LL b), s] = retO (((List.range' p n).filter (turnAt b o)).head?) [.val (LL o), .val (LL b), t] := by
  intro n
  induction n with
  | zero => intro p s f _; exact ⟨s, f, rfl⟩
  | succ n ih =>
    intro p s f hn
    have hb : bName 2 (.int (p : Int)) [.val (LL o), .val (LL b), s] = some [.val (LL o), .val (LL b), .val (.int (p : Int))] := by
      rcases f with rfl | ⟨d, rfl⟩ <;> simp [bName, storable]
    have st := ftBody_eq b o p (by omega) hm
    rw [rngD_succ, List.range'_succ]
    by_cases h : turnAt b o p = true
    · rw [if_pos h] at st
      refine ⟨.val (.int (p : Int)), .inr ⟨_, rfl⟩, (forL_ret _ _ _ _ _ hb st).trans ?_⟩
      rw [List.filter_cons_of_pos h]
      rfl
    · rw [if_neg h] at st
      obtain ⟨t, g, e⟩ := ih (p + 1) (.val (.int (p : Int))) (.inr ⟨_, rfl⟩) (by omega)
      refine ⟨t, g, (forL_cons _ _ _ _ _ hb st rfl).trans ?_⟩
      rw [List.filter_cons_of_neg h]
      exact e
theorem rngI {l : LM} {sl sl' : List Za.Slot} {j : Int} (h : l sl = .ok [.v (.int j)] sl') (hn : -1000 ≤ j ∧ j ≤ 1000) : iRng l sl = .ok (rngD 0 j.toNat) none sl' := by
  have hc : conts sl' [.v (.int j)] = some [.int j] := rfl
  unfold iRng
  rw [h]
  simp only [hc]
  split
  · rfl
  · rename_i h3
    exact absurd ⟨by omega, by omega⟩ h3
theorem ft_items {o : List Int} {sl : List Za.Slot} {i : Nat} (hl : o.length ≤ 1000) (h : sl[i]? = some (.val (LL o))) : iRng (lCons (eOp2 oSub (eFn fLen (lCons (eVar i) lNil)) (eC (.int 1))) lNil) sl = .ok (rngD 0 (o.length - 1)) none sl := by
  have e := rngI (l := lCons (eOp2 oSub (eFn fLen (lCons (eVar i) lNil)) (eC (.int 1))) lNil) (sl := sl) (sl' := sl) (j := (o.length : Int) - 1) (by simp [fnM, fin, outsOf, argS, eB_r, eV_r, op2_r, eOp2_r, erO, erO2, erB, erV, opC, retR, cont, frz, mineD, tB_r, erT, trC, tTr_r, erTr, trE, trD, truth, tAndM_r, trA, tOrM_r, trO, tNotM_r, trN, eAndV_r, trAV, eOrV_r, trOV, eNotV_r, trNV, eIf_r, trIV, eVar_r, slV, slA, eC_r, lNil_r, lCons_r, erC, lrC, eFn_r, lrF, lrF2, conts, eTup_r, lrT, lrT2, vals, eLst_r, lrL, lrL2, sSeq_r, srQ, sExpr_r, erE, sRet_r, erR, sSkip_r, sRetN_r, sIf_r, trI, sStore_r, erS, sSet_r, sOwn_r, sSetX_r, setX, setO, setV_r, avV, storable, eCall_r, lrK, mkK, mkArgs, callR, wb, okRet, okErr, sRaise_r, erX, ePart_none, ePart_some, erP, slI, eSl_r, erSl, slK_r, slK2_r, cutC, oSl, isMut, putMut, setAt, mutD, reD, sItem, itemK, bName, bTup, bAll, fLen, fInt, fList, oIx, oGt, oLt, oGe, oLe, oDiv, oMod, oMul, oAdd, oSub, oPow, o2I, o2C, small, isLst, oNotN, oIsN, Za.isNon, oIn, seqD, flat_int, flats_ints, mst1, mst2, mst3, mst4, or_ite, and_ite, eKid_r, slKd, kdV, flat_str, flat_bl, flat_non, flat_ints, eqv_ints, eqvs_ints, setX, noAl, h]) (by omega)
  rw [e]
  congr 2
  omega
theorem first_turned_eq (b o : List Int) (hl : o.length ≤ 1000) (hm : ∀ k ∈ o, k ∈ b) : Ffirst_turned [.v (LL o), .v (LL b)] = .ok (optD (ft b o)) false [] := by
  have hF : mfirst_turned = sSeq (sFor (iRng (lCons (eOp2 oSub (eFn fLen (lCons (eVar 0) lNil)) (eC (.int 1))) lNil)) (bName 2) ftBody) (sRet (eC .non)) := rfl
  have key : ∃ t, mfirst_turned [.val (LL o), .val (LL b), .emp] = srQ (retO (ft b o) [.val (LL o), .val (LL b), t]) (sRet (eC .non)) := by
    by_cases h0 : o.length = 0
    · refine ⟨.emp, ?_⟩
      have hn : ft b o = none := by unfold ft; rw [h0]; rfl
      have h1 : o.length - 1 = 0 := by omega
      rw [hF, sSeq_r, sFor_none (ft_items (i := 0) hl rfl), hn, h1]
      rfl
    · obtain ⟨t, _, e⟩ := ft_loop b o hm (o.length - 1) 0 .emp (.inl rfl) (by omega)
      refine ⟨t, ?_⟩
      rw [hF, sSeq_r, sFor_none (ft_items (i := 0) hl rfl)]
      rw [← List.range_eq_range'] at e
      exact congrArg (fun r => srQ r (sRet (eC .non))) e
  obtain ⟨t, h⟩ := key
  unfold Ffirst_turned
  refine (fnM_eq (n := 3) (args := [.v (LL o), .v (LL b)]) (sl := [.val (LL o), .val (LL b), .emp]) rfl h).trans ?_
  cases ft b o <;> rfl
/-! how many pairs stand the other way about -/
def inv (b o : List Int) : Nat := (turned o b).length
def cnt (b : List Int) (x : Int) (r : List Int) : Nat := (r.filter fun y => decide (ix b y < ix b x)).length
theorem inv_cons (b : List Int) (x : Int) (r : List Int) : inv b (x :: r) = cnt b x r + inv b r := by
  unfold inv turned cnt
  rw [show prsIn (x :: r) = r.map (fun y => (x, y)) ++ prsIn r from rfl, List.filter_append, List.length_append, List.filter_map, List.length_map]
  rfl
theorem cnt_perm (b : List Int) (x : Int) {r s : List Int} (p : r.Perm s) : cnt b x r = cnt b x s := (p.filter _).length_eq
theorem inv_exch (b : List Int) : ∀ (o : List Int) (i : Nat), i + 1 < o.length → turnAt b o i = true → inv b (exch o i) + 1 = inv b o
  | x :: y :: r, 0, _, h => by
    have h' : ix b y < ix b x := by simpa [turnAt] using h
    have h'' : ¬ ix b x < ix b y := by omega
    rw [exch_zero]
    simp only [inv_cons]
    have e1 : cnt b y (x :: r) = cnt b y r := by unfold cnt; rw [List.filter_cons_of_neg (by simp [h''])]
    have e2 : cnt b x (y :: r) = cnt b x r + 1 := by unfold cnt; rw [List.filter_cons_of_pos (by simp [h']), List.length_cons]
    rw [e1, e2]
    omega
  | z :: l, i + 1, h, ht => by
    have hl : i + 1 < l.length := by simpa using h
    have := inv_exch b l i hl (by simpa [turnAt] using ht)
    rw [exch_succ, inv_cons, inv_cons, cnt_perm b z (exch_perm l i hl)]
    omega
  | [x], 0, h, _ => by simp at h
  | [], _, h, _ => by simp at h
theorem ft_some {b o : List Int} {i : Nat} (h : ft b o = some i) : i + 1 < o.length ∧ turnAt b o i = true := by
  unfold ft at h
  have := List.mem_of_mem_head? (Option.mem_def.mpr h)
  rw [List.mem_filter, List.mem_range] at this
  exact ⟨by omega, this.2⟩
theorem ft_none {b o : List Int} (h : ft b o = none) : ∀ i, i + 1 < o.length → turnAt b o i = false := by
  unfold ft at h
  rw [List.head?_eq_none_iff] at h
  intro i hi
  have := List.filter_eq_nil_iff.mp h i (List.mem_range.mpr (by omega))
  simpa using this
theorem chain_pair (b : List Int) : ∀ (o : List Int), (∀ i, i + 1 < o.length → turnAt b o i = false) → o.Pairwise (fun x y => ix b x ≤ ix b y)
  | [], _ => .nil
  | [x], _ => by simp
  | x :: y :: r, h => by
    have ih := chain_pair b (y :: r) fun i hi => by
      have := h (i + 1) (by simpa using hi)
      simpa [turnAt] using this
    have h0 := h 0 (by simp)
    have h0' : ix b x ≤ ix b y := by simpa [turnAt] using h0
    rw [List.pairwise_cons]
    refine ⟨fun z hz => ?_, ih⟩
    rcases List.mem_cons.mp hz with e | hz
    · subst e; exact h0'
    · exact Nat.le_trans h0' ((List.pairwise_cons.mp ih).1 z hz)
theorem ix_inj {b : List Int} {x y : Int} (hx : x ∈ b) (hy : y ∈ b) (h : ix b x = ix b y) : x = y := by
  rw [← get_ix hx, ← get_ix hy, h]
theorem inv_zero (b : List Int) : ∀ (o : List Int), o.Pairwise (fun x y => ix b x ≤ ix b y) → inv b o = 0
  | [], _ => rfl
  | x :: r, h => by
    obtain ⟨h1, h2⟩ := List.pairwise_cons.mp h
    rw [inv_cons, inv_zero b r h2]
    have : cnt b x r = 0 := by
      unfold cnt
      rw [List.length_eq_zero_iff, List.filter_eq_nil_iff]
      intro y hy
      have := h1 y hy
      simp; omega
    omega
theorem sorted_eq {b o : List Int} (p : o.Perm b) (nd : b.Nodup) (h : o.Pairwise (fun x y => ix b x ≤ ix b y)) : o = b := by
  have key : ∀ l : List Int, (∀ k ∈ l, k ∈ b) → (l.map fun k => b.getD (ix b k) 0) = l := by
    intro l hl
    conv => rhs; rw [← List.map_id l]
    exact List.map_congr_left fun k hk => get_ix (hl k hk)
  have nd' : o.Nodup := p.nodup_iff.mpr nd
  have s1 : (o.map fun k => (ix b k : Int)).Pairwise (· < ·) := by
    rw [List.pairwise_map]
    refine ((List.Pairwise.and_mem.mp h).and (List.nodup_iff_pairwise_ne.mp nd')).imp ?_
    rintro x y ⟨⟨hx, hy, q⟩, ne⟩
    have : ix b x ≠ ix b y := fun e => ne (ix_inj (p.mem_iff.mp hx) (p.mem_iff.mp hy) e)
    omega
  have s2 : (b.map fun k => (ix b k : Int)).Pairwise (· < ·) := by
    rw [List.pairwise_map, List.pairwise_iff_getElem]
    intro i j hi hj hij
    rw [ix_get hi nd, ix_get hj nd]
    omega
  have e := strict_uniq s1 s2 fun k => (p.map _).mem_iff
  have e2 := congrArg (List.map fun z : Int => b.getD z.toNat 0) e
  simp only [List.map_map] at e2
  have c1 := key o fun k hk => p.mem_iff.mp hk
  have c2 := key b fun k hk => hk
  have f : ((fun z : Int => b.getD z.toNat 0) ∘ fun k => (ix b k : Int)) = fun k => b.getD (ix b k) 0 := by funext k; simp
  rw [f] at e2
  exact c1.symm.trans (e2.trans c2)
end Zk06
end
section
set_option linter.all false
set_option maxRecDepth 10000
namespace Zk06
open PySem PySem.Spec PyProof.Rows L2 Za
/-- the indexes of the exchanges -/
def steps (b : List Int) : Nat → List Int → List Int
  | 0, _ => []
  | n + 1, o => match ft b o with
    | none => []
    | some i => (i : Int) :: steps b n (exch o i)
theorem steps_none {b o : List Int} (n : Nat) (h : ft b o = none) : steps b (n + 1) o = [] := by simp [steps, h]
theorem steps_some {b o : List Int} {i : Nat} (n : Nat) (h : ft b o = some i) : steps b (n + 1) o = (i : Int) :: steps b n (exch o i) := by simp [steps, h]
theorem steps_len {b : List Int} : ∀ (n : Nat) (o : List Int), inv b o < n → (steps b n o).length = inv b o
  | 0, _, h => by omega
  | n + 1, o, h => by
    cases e : ft b o with
    | none =>
      rw [steps_none n e, inv_zero b o (chain_pair b o (ft_none e))]
      rfl
    | some i =>
      obtain ⟨h1, h2⟩ := ft_some e
      have := inv_exch b o i h1 h2
      rw [steps_some n e, List.length_cons, steps_len n (exch o i) (by omega)]
      omega
theorem inv_le {b o : List Int} (h : o.length ≤ 12) : inv b o ≤ 144 := by
  have h1 : inv b o ≤ (prsIn o).length := List.length_filter_le _ _
  have h2 := prsIn_len o
  have h3 : o.length * o.length ≤ 12 * 12 := Nat.mul_le_mul h h
  omega
/-! the program's loop -/
def whT : TM := (tB (eOp2 oNotN (eVar 4) (eC .non)))
def whB : SM := (sSeq (sExpr (eMut 3 uAppend (lCons (eVar 4) (lNil))))
    (sSeq (sSet 2 (eCall Fswap_at [false, false] (lCons (eVar 2) (lCons (eVar 4) (lNil)))))
    (sSet 4 (eCall Ffirst_turned [false, false] (lCons (eVar 2) (lCons (eVar 1) (lNil)))))))
theorem whT_eq (a b o s : List Int) (f : Option Nat) : whT [.val (LL a), .val (LL b), .val (LL o), .own (LL s), .val (optD f)] = .ok f.isSome [.val (LL a), .val (LL b), .val (LL o), .own (LL s), .val (optD f)] := by
  cases f with
  | none => simp [whT, fnM, fin, outsOf, argS, eB_r, eV_r, op2_r, eOp2_r, erO, erO2, erB, erV, opC, retR, cont, frz, mineD, tB_r, erT, trC, tTr_r, erTr, trE, trD, truth, tAndM_r, trA, tOrM_r, trO, tNotM_r, trN, eAndV_r, trAV, eOrV_r, trOV, eNotV_r, trNV, eIf_r, trIV, eVar_r, slV, slA, eC_r, lNil_r, lCons_r, erC, lrC, eFn_r, lrF, lrF2, conts, eTup_r, lrT, lrT2, vals, eLst_r, lrL, lrL2, sSeq_r, srQ, sExpr_r, erE, sRet_r, erR, sSkip_r, sRetN_r, sIf_r, trI, sStore_r, erS, sSet_r, sOwn_r, sSetX_r, setX, setO, setV_r, avV, storable, eCall_r, lrK, mkK, mkArgs, callR, wb, okRet, okErr, sRaise_r, erX, ePart_none, ePart_some, erP, slI, eSl_r, erSl, slK_r, slK2_r, cutC, oSl, isMut, putMut, setAt, mutD, reD, sItem, itemK, bName, bTup, bAll, fLen, fInt, fList, oIx, oGt, oLt, oGe, oLe, oDiv, oMod, oMul, oAdd, oSub, oPow, o2I, o2C, small, isLst, oNotN, oIsN, Za.isNon, oIn, seqD, flat_int, flats_ints, mst1, mst2, mst3, mst4, or_ite, and_ite, eKid_r, slKd, kdV, flat_str, flat_bl, flat_non, flat_ints, eqv_ints, eqvs_ints, setX, noAl, optD]
  | some i => simp [whT, fnM, fin, outsOf, argS, eB_r, eV_r, op2_r, eOp2_r, erO, erO2, erB, erV, opC, retR, cont, frz, mineD, tB_r, erT, trC, tTr_r, erTr, trE, trD, truth, tAndM_r, trA, tOrM_r, trO, tNotM_r, trN, eAndV_r, trAV, eOrV_r, trOV, eNotV_r, trNV, eIf_r, trIV, eVar_r, slV, slA, eC_r, lNil_r, lCons_r, erC, lrC, eFn_r, lrF, lrF2, conts, eTup_r, lrT, lrT2, vals, eLst_r, lrL, lrL2, sSeq_r, srQ, sExpr_r, erE, sRet_r, erR, sSkip_r, sRetN_r, sIf_r, trI, sStore_r, erS, sSet_r, sOwn_r, sSetX_r, setX, setO, setV_r, avV, storable, eCall_r, lrK, mkK, mkArgs, callR, wb, okRet, okErr, sRaise_r, erX, ePart_none, ePart_some, erP, slI, eSl_r, erSl, slK_r, slK2_r, cutC, oSl, isMut, putMut, setAt, mutD, reD, sItem, itemK, bName, bTup, bAll, fLen, fInt, fList, oIx, oGt, oLt, oGe, oLe, oDiv, oMod, oMul, oAdd, oSub, oPow, o2I, o2C, small, isLst, oNotN, oIsN, Za.isNon, oIn, seqD, flat_int, flats_ints, mst1, mst2, mst3, mst4, or_ite, and_ite, eKid_r, slKd, kdV, flat_str, flat_bl, flat_non, flat_ints, eqv_ints, eqvs_ints, setX, noAl, optD]
theorem whB_eq (a b o s : List Int) (i : Nat) (f : Fit o) (hm : ∀ k ∈ o, k ∈ b) (hi : i + 1 < o.length) (hs : s.length ≤ 1000) : whB [.val (LL a), .val (LL b), .val (LL o), .own (LL s), .val (.int (i : Int))] = .nx [.val (LL a), .val (LL b), .val (LL (exch o i)), .own (LL (s ++ [(i : Int)])), .val (optD (ft b (exch o i)))] := by
  have p := exch_perm o i hi
  have e1 := swap_at_eq o i (wr_iff.mpr f) hi
  have e2 := first_turned_eq b (exch o i) (by have := (f.perm p).len; omega) fun k hk => hm k (p.mem_iff.mp hk)
  have e3 : (sExpr (eMut 3 uAppend (lCons (eVar 4) (lNil)))) [.val (LL a), .val (LL b), .val (LL o), .own (LL s), .val (.int (i : Int))] = .nx [.val (LL a), .val (LL b), .val (LL o), .own (LL (s ++ [(i : Int)])), .val (.int (i : Int))] := by
    refine sExpr_eq (eMut_eq (i := 3) (f := uAppend) (s := .own (LL s)) (d := LL s) (s' := .own (LL s)) (d' := LL s) (sl' := [.val (LL a), .val (LL b), .val (LL o), .own (LL s), .val (.int (i : Int))]) (as := [.v (.int (i : Int))]) rfl rfl rfl ?_ rfl rfl rfl rfl (append_eq s i hs))
    simp [fnM, fin, outsOf, argS, eB_r, eV_r, op2_r, eOp2_r, erO, erO2, erB, erV, opC, retR, cont, frz, mineD, tB_r, erT, trC, tTr_r, erTr, trE, trD, truth, tAndM_r, trA, tOrM_r, trO, tNotM_r, trN, eAndV_r, trAV, eOrV_r, trOV, eNotV_r, trNV, eIf_r, trIV, eVar_r, slV, slA, eC_r, lNil_r, lCons_r, erC, lrC, eFn_r, lrF, lrF2, conts, eTup_r, lrT, lrT2, vals, eLst_r, lrL, lrL2, sSeq_r, srQ, sExpr_r, erE, sRet_r, erR, sSkip_r, sRetN_r, sIf_r, trI, sStore_r, erS, sSet_r, sOwn_r, sSetX_r, setX, setO, setV_r, avV, storable, eCall_r, lrK, mkK, mkArgs, callR, wb, okRet, okErr, sRaise_r, erX, ePart_none, ePart_some, erP, slI, eSl_r, erSl, slK_r, slK2_r, cutC, oSl, isMut, putMut, setAt, mutD, reD, sItem, itemK, bName, bTup, bAll, fLen, fInt, fList, oIx, oGt, oLt, oGe, oLe, oDiv, oMod, oMul, oAdd, oSub, oPow, o2I, o2C, small, isLst, oNotN, oIsN, Za.isNon, oIn, seqD, flat_int, flats_ints, mst1, mst2, mst3, mst4, or_ite, and_ite, eKid_r, slKd, kdV, flat_str, flat_bl, flat_non, flat_ints, eqv_ints, eqvs_ints, setX, noAl]
  unfold whB
  rw [sSeq_nx e3]
  obtain ⟨S, hS⟩ : ∃ S, S = Fswap_at := ⟨_, rfl⟩
  obtain ⟨T, hT⟩ : ∃ T, T = Ffirst_turned := ⟨_, rfl⟩
  rw [← hS] at e1 ⊢
  rw [← hT] at e2 ⊢
  clear hS hT
  generalize exch o i = o' at *
  simp [fnM, fin, outsOf, argS, eB_r, eV_r, op2_r, eOp2_r, erO, erO2, erB, erV, opC, retR, cont, frz, mineD, tB_r, erT, trC, tTr_r, erTr, trE, trD, truth, tAndM_r, trA, tOrM_r, trO, tNotM_r, trN, eAndV_r, trAV, eOrV_r, trOV, eNotV_r, trNV, eIf_r, trIV, eVar_r, slV, slA, eC_r, lNil_r, lCons_r, erC, lrC, eFn_r, lrF, lrF2, conts, eTup_r, lrT, lrT2, vals, eLst_r, lrL, lrL2, sSeq_r, srQ, sExpr_r, erE, sRet_r, erR, sSkip_r, sRetN_r, sIf_r, trI, sStore_r, erS, sSet_r, sOwn_r, sSetX_r, setX, setO, setV_r, avV, storable, eCall_r, lrK, mkK, mkArgs, callR, wb, okRet, okErr, sRaise_r, erX, ePart_none, ePart_some, erP, slI, eSl_r, erSl, slK_r, slK2_r, cutC, oSl, isMut, putMut, setAt, mutD, reD, sItem, itemK, bName, bTup, bAll, fLen, fInt, fList, oIx, oGt, oLt, oGe, oLe, oDiv, oMod, oMul, oAdd, oSub, oPow, o2I, o2C, small, isLst, oNotN, oIsN, Za.isNon, oIn, seqD, flat_int, flats_ints, mst1, mst2, mst3, mst4, or_ite, and_ite, eKid_r, slKd, kdV, flat_str, flat_bl, flat_non, flat_ints, eqv_ints, eqvs_ints, setX, noAl, e1, e2]
theorem wh_loop (a b : List Int) (hb : Fit b) : ∀ (n : Nat) (o s : List Int), inv b o < n → o.Perm b → s.length + inv b o ≤ 500 →
    whileL whT whB n [.val (LL a), .val (LL b), .val (LL o), .own (LL s), .val (optD (ft b o))] = .nx [.val (LL a), .val (LL b), .val (LL b), .own (LL (s ++ steps b n o)), .val .non]
  | 0, _, _, h, _, _ => by omega
  | n + 1, o, s, h, p, hs => by
    unfold whileL
    rw [whT_eq]
    cases e : ft b o with
    | none =>
      have : o = b := sorted_eq p hb.nd (chain_pair b o (ft_none e))
      rw [steps_none n e, List.append_nil, this]
      rfl
    | some i =>
      obtain ⟨h1, h2⟩ := ft_some e
      have iv := inv_exch b o i h1 h2
      have st := whB_eq a b o s i (hb.perm p) (fun k hk => p.mem_iff.mp hk) h1 (by omega)
      have ih := wh_loop a b hb n (exch o i) (s ++ [(i : Int)]) (by omega) ((exch_perm o i h1).trans p) (by simp; omega)
      rw [steps_some n e]
      simp only [Option.isSome_some, optD]
      rw [st]
      simp only []
      rw [ih, List.append_assoc]
      rfl
theorem straight_err (a b : List Int) {c : Nat} {f : String} {k : Int} (h : chk2 a b = some (c, f, k)) : Fstraight_swaps [.v (LL a), .v (LL b)] = .err c [Str.ofString f] [.int k] [] := by
  have t := check_two_lists_eq a b
  rw [h] at t
  unfold Fstraight_swaps mstraight_swaps
  obtain ⟨C, hC⟩ : ∃ C, C = Fcheck_two_lists := ⟨_, rfl⟩
  rw [← hC] at t ⊢
  clear hC
  simp [fnM, fin, outsOf, argS, eB_r, eV_r, op2_r, eOp2_r, erO, erO2, erB, erV, opC, retR, cont, frz, mineD, tB_r, erT, trC, tTr_r, erTr, trE, trD, truth, tAndM_r, trA, tOrM_r, trO, tNotM_r, trN, eAndV_r, trAV, eOrV_r, trOV, eNotV_r, trNV, eIf_r, trIV, eVar_r, slV, slA, eC_r, lNil_r, lCons_r, erC, lrC, eFn_r, lrF, lrF2, conts, eTup_r, lrT, lrT2, vals, eLst_r, lrL, lrL2, sSeq_r, srQ, sExpr_r, erE, sRet_r, erR, sSkip_r, sRetN_r, sIf_r, trI, sStore_r, erS, sSet_r, sOwn_r, sSetX_r, setX, setO, setV_r, avV, storable, eCall_r, lrK, mkK, mkArgs, callR, wb, okRet, okErr, sRaise_r, erX, ePart_none, ePart_some, erP, slI, eSl_r, erSl, slK_r, slK2_r, cutC, oSl, isMut, putMut, setAt, mutD, reD, sItem, itemK, bName, bTup, bAll, fLen, fInt, fList, oIx, oGt, oLt, oGe, oLe, oDiv, oMod, oMul, oAdd, oSub, oPow, o2I, o2C, small, isLst, oNotN, oIsN, Za.isNon, oIn, seqD, flat_int, flats_ints, mst1, mst2, mst3, mst4, or_ite, and_ite, eKid_r, slKd, kdV, flat_str, flat_bl, flat_non, flat_ints, eqv_ints, eqvs_ints, setX, noAl, t]
theorem straight_eq (a b : List Int) (h : chk2 a b = none) (fb : Fit b) (p : a.Perm b) : Fstraight_swaps [.v (LL a), .v (LL b)] = .ok (LL (steps b 1000 a)) true [] := by
  have t := check_two_lists_eq a b
  rw [h] at t
  have fa := fb.perm p
  have q := first_turned_eq b a (by have := fa.len; omega) fun k hk => p.mem_iff.mp hk
  have iv := inv_le (b := b) fa.len
  have w := wh_loop a b fb 1000 a [] (by omega) p (by simp; omega)
  have hm : mstraight_swaps = sSeq (sExpr (eCall Fcheck_two_lists [false, false] (lCons (eVar 0) (lCons (eVar 1) (lNil))))) (sSeq (sSet 2 (eFn fList (lCons (eVar 0) lNil))) (sSeq (sOwn 3 (eLst (lNil))) (sSeq (sSet 4 (eCall Ffirst_turned [false, false] (lCons (eVar 2) (lCons (eVar 1) (lNil))))) (sSeq (sWhile 1000 whT whB) (sRet (eVar 3)))))) := rfl
  have hw : sWhile 1000 whT whB [.val (LL a), .val (LL b), .val (LL a), .own (LL []), .val (optD (ft b a))] = .nx [.val (LL a), .val (LL b), .val (LL b), .own (LL (steps b 1000 a)), .val .non] := by
    have : sWhile 1000 whT whB = whileL whT whB 1000 := rfl
    rw [this, w]
    rfl
  have hh : mstraight_swaps [.val (LL a), .val (LL b), .emp, .emp, .emp] = .ret (.s 3) [.val (LL a), .val (LL b), .val (LL b), .own (LL (steps b 1000 a)), .val .non] := by
    rw [hm]
    obtain ⟨L, hL⟩ : ∃ L, L = sWhile 1000 whT whB := ⟨_, rfl⟩
    obtain ⟨C, hC⟩ : ∃ C, C = Fcheck_two_lists := ⟨_, rfl⟩
    obtain ⟨T, hT⟩ : ∃ T, T = Ffirst_turned := ⟨_, rfl⟩
    rw [← hL] at hw ⊢
    rw [← hC] at t ⊢
    rw [← hT] at q ⊢
    clear hL hC hT
    generalize steps b 1000 a = z at *
    have e1 : (sExpr (eCall C [false, false] (lCons (eVar 0) (lCons (eVar 1) (lNil))))) [.val (LL a), .val (LL b), .emp, .emp, .emp] = .nx [.val (LL a), .val (LL b), .emp, .emp, .emp] := by simp [fnM, fin, outsOf, argS, eB_r, eV_r, op2_r, eOp2_r, erO, erO2, erB, erV, opC, retR, cont, frz, mineD, tB_r, erT, trC, tTr_r, erTr, trE, trD, truth, tAndM_r, trA, tOrM_r, trO, tNotM_r, trN, eAndV_r, trAV, eOrV_r, trOV, eNotV_r, trNV, eIf_r, trIV, eVar_r, slV, slA, eC_r, lNil_r, lCons_r, erC, lrC, eFn_r, lrF, lrF2, conts, eTup_r, lrT, lrT2, vals, eLst_r, lrL, lrL2, sSeq_r, srQ, sExpr_r, erE, sRet_r, erR, sSkip_r, sRetN_r, sIf_r, trI, sStore_r, erS, sSet_r, sOwn_r, sSetX_r, setX, setO, setV_r, avV, storable, eCall_r, lrK, mkK, mkArgs, callR, wb, okRet, okErr, sRaise_r, erX, ePart_none, ePart_some, erP, slI, eSl_r, erSl, slK_r, slK2_r, cutC, oSl, isMut, putMut, setAt, mutD, reD, sItem, itemK, bName, bTup, bAll, fLen, fInt, fList, oIx, oGt, oLt, oGe, oLe, oDiv, oMod, oMul, oAdd, oSub, oPow, o2I, o2C, small, isLst, oNotN, oIsN, Za.isNon, oIn, seqD, flat_int, flats_ints, mst1, mst2, mst3, mst4, or_ite, and_ite, eKid_r, slKd, kdV, flat_str, flat_bl, flat_non, flat_ints, eqv_ints, eqvs_ints, setX, noAl, t]
    have e2 : (sSet 2 (eFn fList (lCons (eVar 0) lNil))) [.val (LL a), .val (LL b), .emp, .emp, .emp] = .nx [.val (LL a), .val (LL b), .val (LL a), .emp, .emp] := by simp [fnM, fin, outsOf, argS, eB_r, eV_r, op2_r, eOp2_r, erO, erO2, erB, erV, opC, retR, cont, frz, mineD, tB_r, erT, trC, tTr_r, erTr, trE, trD, truth, tAndM_r, trA, tOrM_r, trO, tNotM_r, trN, eAndV_r, trAV, eOrV_r, trOV, eNotV_r, trNV, eIf_r, trIV, eVar_r, slV, slA, eC_r, lNil_r, lCons_r, erC, lrC, eFn_r, lrF, lrF2, conts, eTup_r, lrT, lrT2, vals, eLst_r, lrL, lrL2, sSeq_r, srQ, sExpr_r, erE, sRet_r, erR, sSkip_r, sRetN_r, sIf_r, trI, sStore_r, erS, sSet_r, sOwn_r, sSetX_r, setX, setO, setV_r, avV, storable, eCall_r, lrK, mkK, mkArgs, callR, wb, okRet, okErr, sRaise_r, erX, ePart_none, ePart_some, erP, slI, eSl_r, erSl, slK_r, slK2_r, cutC, oSl, isMut, putMut, setAt, mutD, reD, sItem, itemK, bName, bTup, bAll, fLen, fInt, fList, oIx, oGt, oLt, oGe, oLe, oDiv, oMod, oMul, oAdd, oSub, oPow, o2I, o2C, small, isLst, oNotN, oIsN, Za.isNon, oIn, seqD, flat_int, flats_ints, mst1, mst2, mst3, mst4, or_ite, and_ite, eKid_r, slKd, kdV, flat_str, flat_bl, flat_non, flat_ints, eqv_ints, eqvs_ints, setX, noAl]
    have e3 : (sSet 4 (eCall T [false, false] (lCons (eVar 2) (lCons (eVar 1) (lNil))))) [.val (LL a), .val (LL b), .val (LL a), .own (LL []), .emp] = .nx [.val (LL a), .val (LL b), .val (LL a), .own (LL []), .val (optD (ft b a))] := by simp [fnM, fin, outsOf, argS, eB_r, eV_r, op2_r, eOp2_r, erO, erO2, erB, erV, opC, retR, cont, frz, mineD, tB_r, erT, trC, tTr_r, erTr, trE, trD, truth, tAndM_r, trA, tOrM_r, trO, tNotM_r, trN, eAndV_r, trAV, eOrV_r, trOV, eNotV_r, trNV, eIf_r, trIV, eVar_r, slV, slA, eC_r, lNil_r, lCons_r, erC, lrC, eFn_r, lrF, lrF2, conts, eTup_r, lrT, lrT2, vals, eLst_r, lrL, lrL2, sSeq_r, srQ, sExpr_r, erE, sRet_r, erR, sSkip_r, sRetN_r, sIf_r, trI, sStore_r, erS, sSet_r, sOwn_r, sSetX_r, setX, setO, setV_r, avV, storable, eCall_r, lrK, mkK, mkArgs, callR, wb, okRet, okErr, sRaise_r, erX, ePart_none, ePart_some, erP, slI, eSl_r, erSl, slK_r, slK2_r, cutC, oSl, isMut, putMut, setAt, mutD, reD, sItem, itemK, bName, bTup, bAll, fLen, fInt, fList, oIx, oGt, oLt, oGe, oLe, oDiv, oMod, oMul, oAdd, oSub, oPow, o2I, o2C, small, isLst, oNotN, oIsN, Za.isNon, oIn, seqD, flat_int, flats_ints, mst1, mst2, mst3, mst4, or_ite, and_ite, eKid_r, slKd, kdV, flat_str, flat_bl, flat_non, flat_ints, eqv_ints, eqvs_ints, setX, noAl, q]
    rw [sSeq_nx e1, sSeq_nx e2, sSeq_nx (s1 := [.val (LL a), .val (LL b), .val (LL a), .own (LL []), .emp]) (own_nil rfl), sSeq_nx e3, sSeq_nx hw]
    rfl
  unfold Fstraight_swaps
  refine (fnM_eq (n := 5) (args := [.v (LL a), .v (LL b)]) (sl := [.val (LL a), .val (LL b), .emp, .emp, .emp]) rfl hh).trans ?_
  rfl
/-! the law's loop -/
def agE : EM := (eLc (iRng (lCons (eOp2 oSub (eFn fLen (lCons (eVar 3) lNil)) (eC (.int 1))) lNil)) [6] (bName 6) (tB (eOp2 oLt (eMeth isLK mIndex (eVar 1) (lCons (eOp2 oIx (eVar 3) (eOp2 oAdd (eVar 6) (eC (.int 1)))) (lNil))) (eMeth isLK mIndex (eVar 1) (lCons (eOp2 oIx (eVar 3) (eVar 6)) (lNil))))) (eVar 6))
def stB : SM := (sSeq (sStore (setV 5) agE)
    (sSeq (sIf (tOrM (tNotM (tTr (eVar 5))) (tB (eOp2 oNe (eVar 4) (eOp2 oIx (eVar 5) (eC (.int 0)))))) (sRet (eC (.bl false))) (sSkip))
    (sSet 3 (eCall F_law_exchanged [false, false] (lCons (eVar 3) (lCons (eVar 4) (lNil)))))))
theorem agE_eq (a b o t : List Int) (x : D) (s5 : Za.Slot) (hm : ∀ k ∈ o, k ∈ b) (hl : o.length ≤ 1000) : agE [.val (LL a), .val (LL b), .val (LL t), .val (LL o), .val x, s5, .emp] = .ok (.n (.lst (((List.range (o.length - 1)).filter (turnAt b o)).map fun k : Nat => D.int (k : Int)))) [.val (LL a), .val (LL b), .val (LL t), .val (LL o), .val x, s5, .emp] := by
  refine eLc_eq (fun k : Nat => D.int (k : Int)) (fun k => [.val (LL a), .val (LL b), .val (LL t), .val (LL o), .val x, s5, .val (.int (k : Int))]) (turnAt b o) _ (List.range (o.length - 1)) ?_ rfl (fun p hp => ⟨rfl, ?_, fun _ => ⟨.v (.int (p : Int)), rfl, rfl⟩, rfl⟩) (by simp; omega)
  · rw [← rngD_map]
    exact ft_items (i := 3) hl rfl
  · have hp' : p + 1 < o.length := by rw [List.mem_range] at hp; omega
    have h1 := at_getD o p (by omega)
    have h2 := at_getD o (p + 1) hp'
    have e : ((p : Int) + 1) = ((p + 1 : Nat) : Int) := by omega
    simp only [← e] at h2
    have q1 := index_eq (hm _ (getD_mem (o := o) (p := p) (by omega)))
    have q2 := index_eq (hm _ (getD_mem (o := o) (p := p + 1) hp'))
    unfold turnAt
    generalize o.getD (p + 1) 0 = y at *
    generalize o.getD p 0 = z at *
    simp [fnM, fin, outsOf, argS, eB_r, eV_r, op2_r, eOp2_r, erO, erO2, erB, erV, opC, retR, cont, frz, mineD, tB_r, erT, trC, tTr_r, erTr, trE, trD, truth, tAndM_r, trA, tOrM_r, trO, tNotM_r, trN, eAndV_r, trAV, eOrV_r, trOV, eNotV_r, trNV, eIf_r, trIV, eVar_r, slV, slA, eC_r, lNil_r, lCons_r, erC, lrC, eFn_r, lrF, lrF2, conts, eTup_r, lrT, lrT2, vals, eLst_r, lrL, lrL2, sSeq_r, srQ, sExpr_r, erE, sRet_r, erR, sSkip_r, sRetN_r, sIf_r, trI, sStore_r, erS, sSet_r, sOwn_r, sSetX_r, setX, setO, setV_r, avV, storable, eCall_r, lrK, mkK, mkArgs, callR, wb, okRet, okErr, sRaise_r, erX, ePart_none, ePart_some, erP, slI, eSl_r, erSl, slK_r, slK2_r, cutC, oSl, isMut, putMut, setAt, mutD, reD, sItem, itemK, bName, bTup, bAll, fLen, fInt, fList, oIx, oGt, oLt, oGe, oLe, oDiv, oMod, oMul, oAdd, oSub, oPow, o2I, o2C, small, isLst, oNotN, oIsN, Za.isNon, oIn, seqD, flat_int, flats_ints, mst1, mst2, mst3, mst4, or_ite, and_ite, eKid_r, slKd, kdV, flat_str, flat_bl, flat_non, flat_ints, eqv_ints, eqvs_ints, setX, noAl, eMeth, isLK, h1, h2, q1, q2, lt_ix]
theorem stB_eq (a b o t : List Int) (i : Nat) (s5 : Za.Slot) (f5 : free s5) (hm : ∀ k ∈ o, k ∈ b) (hl : o.length ≤ 1000) (h : ft b o = some i) : ∃ t5, free t5 ∧ stB [.val (LL a), .val (LL b), .val (LL t), .val (LL o), .val (.int (i : Int)), s5, .emp] = .nx [.val (LL a), .val (LL b), .val (LL t), .val (LL (exch o i)), .val (.int (i : Int)), t5, .emp] := by
  obtain ⟨h1, h2⟩ := ft_some h
  have g := agE_eq a b o t (.int (i : Int)) s5 hm hl
  have e := law_exchanged_eq o i h1
  unfold ft at h
  generalize hr : (List.range (o.length - 1)).filter (turnAt b o) = r at *
  cases r with
  | nil => simp at h
  | cons j r =>
    simp at h
    subst h
    refine ⟨.val (.lst ((j :: r).map fun k : Nat => D.int (k : Int))), .inr ⟨_, rfl⟩, ?_⟩
    have hx : atI ((j :: r).map fun k : Nat => D.int (k : Int)) 0 = some (.int (j : Int)) := by simp [atI, ixN]
    unfold stB
    obtain ⟨E, hE⟩ : ∃ E, E = F_law_exchanged := ⟨_, rfl⟩
    obtain ⟨A, hA⟩ : ∃ A, A = agE := ⟨_, rfl⟩
    rw [← hE] at e ⊢
    rw [← hA] at g ⊢
    clear hE hA
    have s1 : sStore (setV 5) A [.val (LL a), .val (LL b), .val (LL t), .val (LL o), .val (.int (j : Int)), s5, .emp] = .nx [.val (LL a), .val (LL b), .val (LL t), .val (LL o), .val (.int (j : Int)), .val (.lst ((j :: r).map fun k : Nat => D.int (k : Int))), .emp] := by
      rcases f5 with rfl | ⟨d, rfl⟩ <;> simp [fnM, fin, outsOf, argS, eB_r, eV_r, op2_r, eOp2_r, erO, erO2, erB, erV, opC, retR, cont, frz, mineD, tB_r, erT, trC, tTr_r, erTr, trE, trD, truth, tAndM_r, trA, tOrM_r, trO, tNotM_r, trN, eAndV_r, trAV, eOrV_r, trOV, eNotV_r, trNV, eIf_r, trIV, eVar_r, slV, slA, eC_r, lNil_r, lCons_r, erC, lrC, eFn_r, lrF, lrF2, conts, eTup_r, lrT, lrT2, vals, eLst_r, lrL, lrL2, sSeq_r, srQ, sExpr_r, erE, sRet_r, erR, sSkip_r, sRetN_r, sIf_r, trI, sStore_r, erS, sSet_r, sOwn_r, sSetX_r, setX, setO, setV_r, avV, storable, eCall_r, lrK, mkK, mkArgs, callR, wb, okRet, okErr, sRaise_r, erX, ePart_none, ePart_some, erP, slI, eSl_r, erSl, slK_r, slK2_r, cutC, oSl, isMut, putMut, setAt, mutD, reD, sItem, itemK, bName, bTup, bAll, fLen, fInt, fList, oIx, oGt, oLt, oGe, oLe, oDiv, oMod, oMul, oAdd, oSub, oPow, o2I, o2C, small, isLst, oNotN, oIsN, Za.isNon, oIn, seqD, flat_int, flats_ints, mst1, mst2, mst3, mst4, or_ite, and_ite, eKid_r, slKd, kdV, flat_str, flat_bl, flat_non, flat_ints, eqv_ints, eqvs_ints, setX, noAl, g]
    rw [sSeq_nx s1]
    generalize exch o j = o' at *
    simp only [List.map_cons] at hx ⊢
    simp [fnM, fin, outsOf, argS, eB_r, eV_r, op2_r, eOp2_r, erO, erO2, erB, erV, opC, retR, cont, frz, mineD, tB_r, erT, trC, tTr_r, erTr, trE, trD, truth, tAndM_r, trA, tOrM_r, trO, tNotM_r, trN, eAndV_r, trAV, eOrV_r, trOV, eNotV_r, trNV, eIf_r, trIV, eVar_r, slV, slA, eC_r, lNil_r, lCons_r, erC, lrC, eFn_r, lrF, lrF2, conts, eTup_r, lrT, lrT2, vals, eLst_r, lrL, lrL2, sSeq_r, srQ, sExpr_r, erE, sRet_r, erR, sSkip_r, sRetN_r, sIf_r, trI, sStore_r, erS, sSet_r, sOwn_r, sSetX_r, setX, setO, setV_r, avV, storable, eCall_r, lrK, mkK, mkArgs, callR, wb, okRet, okErr, sRaise_r, erX, ePart_none, ePart_some, erP, slI, eSl_r, erSl, slK_r, slK2_r, cutC, oSl, isMut, putMut, setAt, mutD, reD, sItem, itemK, bName, bTup, bAll, fLen, fInt, fList, oIx, oGt, oLt, oGe, oLe, oDiv, oMod, oMul, oAdd, oSub, oPow, o2I, o2C, small, isLst, oNotN, oIsN, Za.isNon, oIn, seqD, flat_int, flats_ints, mst1, mst2, mst3, mst4, or_ite, and_ite, eKid_r, slKd, kdV, flat_str, flat_bl, flat_non, flat_ints, eqv_ints, eqvs_ints, setX, noAl, hx, e, oNe, eqv]
theorem st_loop (a b t : List Int) (hb : Fit b) : ∀ (n : Nat) (o : List Int) (s4 s5 : Za.Slot), inv b o < n → o.Perm b → free s4 → free s5 →
    ∃ t4 t5, free t4 ∧ free t5 ∧ forL (fun _ => true) (bName 4) stB ((steps b n o).map D.int) [.val (LL a), .val (LL b), .val (LL t), .val (LL o), s4, s5, .emp] = .nx [.val (LL a), .val (LL b), .val (LL t), .val (LL b), t4, t5, .emp]
  | 0, _, _, _, h, _, _, _ => by omega
  | n + 1, o, s4, s5, h, p, f4, f5 => by
    cases e : ft b o with
    | none =>
      have : o = b := sorted_eq p hb.nd (chain_pair b o (ft_none e))
      rw [steps_none n e, this]
      exact ⟨s4, s5, f4, f5, rfl⟩
    | some i =>
      obtain ⟨h1, h2⟩ := ft_some e
      have iv := inv_exch b o i h1 h2
      have hbd : bName 4 (.int (i : Int)) [.val (LL a), .val (LL b), .val (LL t), .val (LL o), s4, s5, .emp] = some [.val (LL a), .val (LL b), .val (LL t), .val (LL o), .val (.int (i : Int)), s5, .emp] := by
        rcases f4 with rfl | ⟨d, rfl⟩ <;> simp [bName, storable]
      obtain ⟨t5, g5, st⟩ := stB_eq a b o t i s5 f5 (fun k hk => p.mem_iff.mp hk) (by have := (hb.perm p).len; omega) e
      obtain ⟨t4, t5', g4, g5', ih⟩ := st_loop a b t hb n (exch o i) (.val (.int (i : Int))) t5 (by omega) ((exch_perm o i h1).trans p) (.inr ⟨_, rfl⟩) g5
      refine ⟨t4, t5', g4, g5', ?_⟩
      rw [steps_some n e, List.map_cons, forL_cons _ _ _ _ _ hbd st rfl, ih]
theorem law_straight_eq (a b : List Int) (fb : Fit b) (p : a.Perm b) : F_law_straight [.v (LL a), .v (LL b), .v (LL (steps b 1000 a))] = .ok (.bl true) false [] := by
  have fa := fb.perm p
  have iv := inv_le (b := b) fa.len
  have ln := steps_len (b := b) 1000 a (by omega)
  have hab : ∀ k ∈ a, k ∈ b := fun k hk => p.mem_iff.mp hk
  have d := law_differing_eq a b (by have := fa.len; omega) hab
  have rl : (rows a b).length = inv b a := by rw [rows_eq b fa.nd, (sortP_perm _).length_eq]; rfl
  obtain ⟨t4, t5, g4, g5, lp⟩ := st_loop a b (steps b 1000 a) fb 1000 a .emp .emp (by omega) p (.inl rfl) (.inl rfl)
  have hl : (steps b 1000 a).length ≤ 1000 := by omega
  have hr : (steps b 1000 a).length = (rows a b).length := by omega
  generalize hz : steps b 1000 a = z at *
  have h1 : eLc (iLst (eVar 2)) [4] (bName 4) (tYesM) (eCall F_law_int [false] (lCons (eVar 4) (lNil))) [.val (LL a), .val (LL b), .val (LL z), .emp, .emp, .emp, .emp] = .ok (.n (.lst ((z.filter (fun _ => true)).map (fun _ => D.bl true)))) [.val (LL a), .val (LL b), .val (LL z), .emp, .emp, .emp, .emp] := by
    refine eLc_eq D.int (fun k => [.val (LL a), .val (LL b), .val (LL z), .emp, .val (.int k), .emp, .emp]) _ _ z rfl rfl (fun k _ => ⟨rfl, rfl, fun _ => ⟨.v (.bl true), ?_, rfl⟩, rfl⟩) hl
    have := law_int_eq k
    obtain ⟨I, hI⟩ : ∃ I, I = F_law_int := ⟨_, rfl⟩
    rw [← hI] at this ⊢
    clear hI
    simp [fnM, fin, outsOf, argS, eB_r, eV_r, op2_r, eOp2_r, erO, erO2, erB, erV, opC, retR, cont, frz, mineD, tB_r, erT, trC, tTr_r, erTr, trE, trD, truth, tAndM_r, trA, tOrM_r, trO, tNotM_r, trN, eAndV_r, trAV, eOrV_r, trOV, eNotV_r, trNV, eIf_r, trIV, eVar_r, slV, slA, eC_r, lNil_r, lCons_r, erC, lrC, eFn_r, lrF, lrF2, conts, eTup_r, lrT, lrT2, vals, eLst_r, lrL, lrL2, sSeq_r, srQ, sExpr_r, erE, sRet_r, erR, sSkip_r, sRetN_r, sIf_r, trI, sStore_r, erS, sSet_r, sOwn_r, sSetX_r, setX, setO, setV_r, avV, storable, eCall_r, lrK, mkK, mkArgs, callR, wb, okRet, okErr, sRaise_r, erX, ePart_none, ePart_some, erP, slI, eSl_r, erSl, slK_r, slK2_r, cutC, oSl, isMut, putMut, setAt, mutD, reD, sItem, itemK, bName, bTup, bAll, fLen, fInt, fList, oIx, oGt, oLt, oGe, oLe, oDiv, oMod, oMul, oAdd, oSub, oPow, o2I, o2C, small, isLst, oNotN, oIsN, Za.isNon, oIn, seqD, flat_int, flats_ints, mst1, mst2, mst3, mst4, or_ite, and_ite, eKid_r, slKd, kdV, flat_str, flat_bl, flat_non, flat_ints, eqv_ints, eqvs_ints, setX, noAl, this]
  have h2 := all_true (z.filter (fun _ => true))
  simp only [filter_tt] at h1 h2
  have hm : m_law_straight = sSeq (sIf (tOrM (tNotM (tTr (eIsi (eVar 2) "list"))) (tNotM (tTr (eFn fAll (lCons (eLc (iLst (eVar 2)) [4] (bName 4) (tYesM) (eCall F_law_int [false] (lCons (eVar 4) (lNil)))) lNil))))) (sRet (eC (.bl false))) (sSkip))
    (sSeq (sIf (tB (eOp2 oNe (eFn fLen (lCons (eVar 2) lNil)) (eFn fLen (lCons (eCall F_law_differing [false, false] (lCons (eVar 0) (lCons (eVar 1) (lNil)))) lNil)))) (sRet (eC (.bl false))) (sSkip))
    (sSeq (sSet 3 (eFn fList (lCons (eVar 0) lNil)))
    (sSeq (sFor (iLst (eVar 2)) (bName 4) stB)
    (sRet (eOp2 oEq (eVar 3) (eVar 1)))))) := rfl
  have it : iLst (eVar 2) [.val (LL a), .val (LL b), .val (LL z), .val (LL a), .emp, .emp, .emp] = .ok (z.map D.int) none [.val (LL a), .val (LL b), .val (LL z), .val (LL a), .emp, .emp, .emp] := rfl
  have fl := (sFor_none (y := bName 4) (z := stB) it).trans lp
  have hh : m_law_straight [.val (LL a), .val (LL b), .val (LL z), .emp, .emp, .emp, .emp] = .ret (.v (.bl true)) [.val (LL a), .val (LL b), .val (LL z), .val (LL b), t4, t5, .emp] := by
    rw [hm]
    obtain ⟨E, hE⟩ : ∃ E, E = eLc (iLst (eVar 2)) [4] (bName 4) (tYesM) (eCall F_law_int [false] (lCons (eVar 4) (lNil))) := ⟨_, rfl⟩
    obtain ⟨L, hL⟩ : ∃ L, L = sFor (iLst (eVar 2)) (bName 4) stB := ⟨_, rfl⟩
    obtain ⟨C, hC⟩ : ∃ C, C = F_law_differing := ⟨_, rfl⟩
    rw [← hE] at h1 ⊢
    rw [← hL] at fl ⊢
    rw [← hC] at d ⊢
    clear hE hL hC lp it hm
    have e1 : (sIf (tOrM (tNotM (tTr (eIsi (eVar 2) "list"))) (tNotM (tTr (eFn fAll (lCons E lNil))))) (sRet (eC (.bl false))) (sSkip)) [.val (LL a), .val (LL b), .val (LL z), .emp, .emp, .emp, .emp] = .nx [.val (LL a), .val (LL b), .val (LL z), .emp, .emp, .emp, .emp] := by
      simp [fnM, fin, outsOf, argS, eB_r, eV_r, op2_r, eOp2_r, erO, erO2, erB, erV, opC, retR, cont, frz, mineD, tB_r, erT, trC, tTr_r, erTr, trE, trD, truth, tAndM_r, trA, tOrM_r, trO, tNotM_r, trN, eAndV_r, trAV, eOrV_r, trOV, eNotV_r, trNV, eIf_r, trIV, eVar_r, slV, slA, eC_r, lNil_r, lCons_r, erC, lrC, eFn_r, lrF, lrF2, conts, eTup_r, lrT, lrT2, vals, eLst_r, lrL, lrL2, sSeq_r, srQ, sExpr_r, erE, sRet_r, erR, sSkip_r, sRetN_r, sIf_r, trI, sStore_r, erS, sSet_r, sOwn_r, sSetX_r, setX, setO, setV_r, avV, storable, eCall_r, lrK, mkK, mkArgs, callR, wb, okRet, okErr, sRaise_r, erX, ePart_none, ePart_some, erP, slI, eSl_r, erSl, slK_r, slK2_r, cutC, oSl, isMut, putMut, setAt, mutD, reD, sItem, itemK, bName, bTup, bAll, fLen, fInt, fList, oIx, oGt, oLt, oGe, oLe, oDiv, oMod, oMul, oAdd, oSub, oPow, o2I, o2C, small, isLst, oNotN, oIsN, Za.isNon, oIn, seqD, flat_int, flats_ints, mst1, mst2, mst3, mst4, or_ite, and_ite, eKid_r, slKd, kdV, flat_str, flat_bl, flat_non, flat_ints, eqv_ints, eqvs_ints, setX, noAl, h1, h2, eIsi, tyD, askT, isTyp]
    have e2 : (sIf (tB (eOp2 oNe (eFn fLen (lCons (eVar 2) lNil)) (eFn fLen (lCons (eCall C [false, false] (lCons (eVar 0) (lCons (eVar 1) (lNil)))) lNil)))) (sRet (eC (.bl false))) (sSkip)) [.val (LL a), .val (LL b), .val (LL z), .emp, .emp, .emp, .emp] = .nx [.val (LL a), .val (LL b), .val (LL z), .emp, .emp, .emp, .emp] := by
      simp [fnM, fin, outsOf, argS, eB_r, eV_r, op2_r, eOp2_r, erO, erO2, erB, erV, opC, retR, cont, frz, mineD, tB_r, erT, trC, tTr_r, erTr, trE, trD, truth, tAndM_r, trA, tOrM_r, trO, tNotM_r, trN, eAndV_r, trAV, eOrV_r, trOV, eNotV_r, trNV, eIf_r, trIV, eVar_r, slV, slA, eC_r, lNil_r, lCons_r, erC, lrC, eFn_r, lrF, lrF2, conts, eTup_r, lrT, lrT2, vals, eLst_r, lrL, lrL2, sSeq_r, srQ, sExpr_r, erE, sRet_r, erR, sSkip_r, sRetN_r, sIf_r, trI, sStore_r, erS, sSet_r, sOwn_r, sSetX_r, setX, setO, setV_r, avV, storable, eCall_r, lrK, mkK, mkArgs, callR, wb, okRet, okErr, sRaise_r, erX, ePart_none, ePart_some, erP, slI, eSl_r, erSl, slK_r, slK2_r, cutC, oSl, isMut, putMut, setAt, mutD, reD, sItem, itemK, bName, bTup, bAll, fLen, fInt, fList, oIx, oGt, oLt, oGe, oLe, oDiv, oMod, oMul, oAdd, oSub, oPow, o2I, o2C, small, isLst, oNotN, oIsN, Za.isNon, oIn, seqD, flat_int, flats_ints, mst1, mst2, mst3, mst4, or_ite, and_ite, eKid_r, slKd, kdV, flat_str, flat_bl, flat_non, flat_ints, eqv_ints, eqvs_ints, setX, noAl, d, oNe, eqv, hr]
    have e3 : (sSet 3 (eFn fList (lCons (eVar 0) lNil))) [.val (LL a), .val (LL b), .val (LL z), .emp, .emp, .emp, .emp] = .nx [.val (LL a), .val (LL b), .val (LL z), .val (LL a), .emp, .emp, .emp] := by simp [fnM, fin, outsOf, argS, eB_r, eV_r, op2_r, eOp2_r, erO, erO2, erB, erV, opC, retR, cont, frz, mineD, tB_r, erT, trC, tTr_r, erTr, trE, trD, truth, tAndM_r, trA, tOrM_r, trO, tNotM_r, trN, eAndV_r, trAV, eOrV_r, trOV, eNotV_r, trNV, eIf_r, trIV, eVar_r, slV, slA, eC_r, lNil_r, lCons_r, erC, lrC, eFn_r, lrF, lrF2, conts, eTup_r, lrT, lrT2, vals, eLst_r, lrL, lrL2, sSeq_r, srQ, sExpr_r, erE, sRet_r, erR, sSkip_r, sRetN_r, sIf_r, trI, sStore_r, erS, sSet_r, sOwn_r, sSetX_r, setX, setO, setV_r, avV, storable, eCall_r, lrK, mkK, mkArgs, callR, wb, okRet, okErr, sRaise_r, erX, ePart_none, ePart_some, erP, slI, eSl_r, erSl, slK_r, slK2_r, cutC, oSl, isMut, putMut, setAt, mutD, reD, sItem, itemK, bName, bTup, bAll, fLen, fInt, fList, oIx, oGt, oLt, oGe, oLe, oDiv, oMod, oMul, oAdd, oSub, oPow, o2I, o2C, small, isLst, oNotN, oIsN, Za.isNon, oIn, seqD, flat_int, flats_ints, mst1, mst2, mst3, mst4, or_ite, and_ite, eKid_r, slKd, kdV, flat_str, flat_bl, flat_non, flat_ints, eqv_ints, eqvs_ints, setX, noAl]
    have e4 : (sRet (eOp2 oEq (eVar 3) (eVar 1))) [.val (LL a), .val (LL b), .val (LL z), .val (LL b), t4, t5, .emp] = .ret (.v (.bl true)) [.val (LL a), .val (LL b), .val (LL z), .val (LL b), t4, t5, .emp] := by simp [fnM, fin, outsOf, argS, eB_r, eV_r, op2_r, eOp2_r, erO, erO2, erB, erV, opC, retR, cont, frz, mineD, tB_r, erT, trC, tTr_r, erTr, trE, trD, truth, tAndM_r, trA, tOrM_r, trO, tNotM_r, trN, eAndV_r, trAV, eOrV_r, trOV, eNotV_r, trNV, eIf_r, trIV, eVar_r, slV, slA, eC_r, lNil_r, lCons_r, erC, lrC, eFn_r, lrF, lrF2, conts, eTup_r, lrT, lrT2, vals, eLst_r, lrL, lrL2, sSeq_r, srQ, sExpr_r, erE, sRet_r, erR, sSkip_r, sRetN_r, sIf_r, trI, sStore_r, erS, sSet_r, sOwn_r, sSetX_r, setX, setO, setV_r, avV, storable, eCall_r, lrK, mkK, mkArgs, callR, wb, okRet, okErr, sRaise_r, erX, ePart_none, ePart_some, erP, slI, eSl_r, erSl, slK_r, slK2_r, cutC, oSl, isMut, putMut, setAt, mutD, reD, sItem, itemK, bName, bTup, bAll, fLen, fInt, fList, oIx, oGt, oLt, oGe, oLe, oDiv, oMod, oMul, oAdd, oSub, oPow, o2I, o2C, small, isLst, oNotN, oIsN, Za.isNon, oIn, seqD, flat_int, flats_ints, mst1, mst2, mst3, mst4, or_ite, and_ite, eKid_r, slKd, kdV, flat_str, flat_bl, flat_non, flat_ints, eqv_ints, eqvs_ints, setX, noAl, oEq]
    rw [sSeq_nx e1, sSeq_nx e2, sSeq_nx e3, sSeq_nx fl, e4]
  unfold F_law_straight
  refine (fnM_eq (n := 7) (args := [.v (LL a), .v (LL b), .v (LL z)]) (sl := [.val (LL a), .val (LL b), .val (LL z), .emp, .emp, .emp, .emp]) rfl hh).trans ?_
  rfl
end Zk06
end
section
set_option linter.all false
set_option maxRecDepth 10000
namespace Zk06
open PySem PySem.Spec PyProof.Rows L2 Za
theorem same_perm {a b : List Int} (fa : Fit a) (fb : Fit b) (h : symI a b = []) : a.Perm b := by
  have hm : ∀ k, k ∈ a ↔ k ∈ b := by
    intro k
    have : k ∉ symI a b := by rw [h]; simp
    rw [mem_symI] at this
    by_cases h1 : k ∈ a <;> by_cases h2 : k ∈ b <;> simp_all
  have e : sortI a = sortI b := strict_uniq (sortI_strict fa.nd) (sortI_strict fb.nd) fun k => by rw [(sortI_perm a).mem_iff, (sortI_perm b).mem_iff]; exact hm k
  exact (sortI_perm a).symm.trans (e ▸ sortI_perm b)
theorem asked_w0 (a b : List Int) (i : Int) (ha : a.length ≤ 1000) (hb : b.length ≤ 1000) : F_law_asked [.v (.int 0), .v (LL a), .v (LL b), .v (.int i)] = .ok (.bl true) false [] := by
  have d := law_due_eq 0 a b i ha hb
  have c := check_list_eq a
  cases e : wr a with
  | some p =>
    rw [e] at c
    have du : due 0 a b i = ("list", (p : Int)) := by unfold due; rw [e]
    rw [du] at d
    exact asked_err (ask_err (body0_err c) (ask_list 0 a b i p)) d st1
  | none =>
    rw [e] at c
    have du : due 0 a b i = ("told", 0) := by unfold due; rw [e]; simp
    rw [du] at d
    exact asked0 (ask_val (body0_ok c)) d
theorem asked_w1 (a b : List Int) (i : Int) (ha : a.length ≤ 1000) (hb : b.length ≤ 1000) : F_law_asked [.v (.int 1), .v (LL a), .v (LL b), .v (.int i)] = .ok (.bl true) false [] := by
  have d := law_due_eq 1 a b i ha hb
  cases e : wr a with
  | some p =>
    have c := swap_at_wrong a i p e
    have du : due 1 a b i = ("list", (p : Int)) := by unfold due; rw [e]
    rw [du] at d
    exact asked_err (ask_err (body1_err c) (ask_list 1 a b i p)) d st1
  | none =>
    by_cases h : offI a.length i = true
    · have c := swap_at_off a i e h
      have du : due 1 a b i = ("swap", 0) := by unfold due; rw [e]; simp [h]
      rw [du] at d
      exact asked_err (ask_err (body1_err c) (ask_swap 1 a b i 0)) d st2
    · have du : due 1 a b i = ("told", 0) := by unfold due; rw [e]; simp [h]
      rw [du] at d
      simp [offI] at h
      obtain ⟨j, rfl⟩ := Int.eq_ofNat_of_zero_le h.1
      have hj : j + 1 < a.length := by omega
      exact asked1 (ask_own (body1_ok (swap_at_eq a j e hj))) d (law_exchanged_eq a j hj) (law_ints_eq _ (by rw [exch_len]; exact ha)) (by rw [exch_len]; exact ha)
theorem due2 {way : Int} {a b : List Int} {i : Int} (hw : way = 2 ∨ way = 3) : due way a b i = match chk2 a b with | none => ("told", 0) | some (c, _, k) => (if c = 1 then "list" else "unlike", k) := by
  have h1 : ¬ way = 1 := by omega
  have h2 : ¬ way < 2 := by omega
  unfold due chk2
  cases wr a with
  | some p => rfl
  | none =>
    simp only [h1, h2, false_and, if_false]
    cases wr b with
    | some p => rfl
    | none => cases symI a b <;> rfl
theorem chk2_cases {a b : List Int} {c : Nat} {f : String} {k : Int} (h : chk2 a b = some (c, f, k)) : (c = 1 ∧ f = "place") ∨ (c = 2 ∧ f = "key") := by
  unfold chk2 at h
  cases e : wr a with
  | some p => rw [e] at h; simp at h; exact .inl ⟨h.1.symm, h.2.1.symm⟩
  | none =>
    rw [e] at h
    simp only [] at h
    cases e2 : wr b with
    | some p => rw [e2] at h; simp at h; exact .inl ⟨h.1.symm, h.2.1.symm⟩
    | none =>
      rw [e2] at h
      simp only [] at h
      cases e3 : symI a b with
      | nil => rw [e3] at h; cases h
      | cons x r => rw [e3] at h; simp at h; exact .inr ⟨h.1.symm, h.2.1.symm⟩
theorem chk2_none {a b : List Int} (h : chk2 a b = none) : Fit a ∧ Fit b ∧ a.Perm b := by
  unfold chk2 at h
  cases e : wr a with
  | some p => rw [e] at h; cases h
  | none =>
    rw [e] at h
    simp only [] at h
    cases e2 : wr b with
    | some p => rw [e2] at h; cases h
    | none =>
      rw [e2] at h
      simp only [] at h
      cases e3 : symI a b with
      | nil => exact ⟨wr_iff.mp e, wr_iff.mp e2, same_perm (wr_iff.mp e) (wr_iff.mp e2) e3⟩
      | cons x r => rw [e3] at h; cases h
theorem asked_w2 (a b : List Int) (i : Int) (ha : a.length ≤ 1000) (hb : b.length ≤ 1000) : F_law_asked [.v (.int 2), .v (LL a), .v (LL b), .v (.int i)] = .ok (.bl true) false [] := by
  have d := law_due_eq 2 a b i ha hb
  rw [due2 (.inl rfl)] at d
  cases e : chk2 a b with
  | some x =>
    obtain ⟨c, f, k⟩ := x
    rw [e] at d
    have q := differing_err a b e
    rcases chk2_cases e with ⟨rfl, rfl⟩ | ⟨rfl, rfl⟩
    · exact asked_err (ask_err (body2_err q) (ask_list 2 a b i k)) d st1
    · exact asked_err (ask_err (body2_err q) (ask_unlike 2 a b i k)) d st3
  | none =>
    rw [e] at d
    obtain ⟨fa, fb, p⟩ := chk2_none e
    have hab : ∀ k ∈ a, k ∈ b := fun k hk => p.mem_iff.mp hk
    have l30 : a.length ≤ 30 := by have := fa.len; omega
    have q := differing_eq a b e l30 hab
    have r := law_differing_eq a b l30 hab
    rw [rows_eq b fa.nd] at r
    have ln : (sortP (turned a b)).length ≤ 1000 := by
      have := inv_le (b := b) fa.len
      rw [(sortP_perm _).length_eq]
      unfold inv at this
      omega
    exact asked2 (ask_own (body2_ok q)) d r (law_tuples_eq _ ln)
theorem asked_w3 (a b : List Int) (i : Int) (ha : a.length ≤ 1000) (hb : b.length ≤ 1000) : F_law_asked [.v (.int 3), .v (LL a), .v (LL b), .v (.int i)] = .ok (.bl true) false [] := by
  have d := law_due_eq 3 a b i ha hb
  rw [due2 (.inr rfl)] at d
  cases e : chk2 a b with
  | some x =>
    obtain ⟨c, f, k⟩ := x
    rw [e] at d
    have q := straight_err a b e
    rcases chk2_cases e with ⟨rfl, rfl⟩ | ⟨rfl, rfl⟩
    · exact asked_err (ask_err (body3_err q) (ask_list 3 a b i k)) d st1
    · exact asked_err (ask_err (body3_err q) (ask_unlike 3 a b i k)) d st3
  | none =>
    rw [e] at d
    obtain ⟨fa, fb, p⟩ := chk2_none e
    exact asked3 (ask_own (body3_ok (straight_eq a b e fb p))) d (law_straight_eq a b fb p)
theorem asked_true {way : Nat} (hw : way < 4) (a b : List Int) (i : Int) (ha : a.length ≤ 1000) (hb : b.length ≤ 1000) : F_law_asked [.v (.int (way : Int)), .v (LL a), .v (LL b), .v (.int i)] = .ok (.bl true) false [] := by
  match way, hw with
  | 0, _ => exact asked_w0 a b i ha hb
  | 1, _ => exact asked_w1 a b i ha hb
  | 2, _ => exact asked_w2 a b i ha hb
  | 3, _ => exact asked_w3 a b i ha hb
end Zk06
end
section
set_option linter.all false
set_option maxRecDepth 10000
namespace Zk06
open PySem PySem.Spec PyProof.Rows L2 Za
theorem sSet_of {i : Nat} {m : EM} {sl sl1 : List Za.Slot} {a : AV} {d : D} (e : m sl = .ok a sl1) (f : frz a = .v d) (h : storable sl1 i = true) : sSet i m sl = .nx (sl1.set i (.val d)) := by
  rw [sSet_r, e]
  unfold erS
  simp only []
  rw [setV_r, f]
  unfold avV
  simp only []
  rw [if_pos h]
theorem sOwn_of {i : Nat} {m : EM} {sl sl1 : List Za.Slot} {d : D} (e : m sl = .ok (.n d) sl1) (h : storable sl1 i = true) : sOwn i m sl = .nx (sl1.set i (.own d)) := by
  rw [sOwn_r, e]
  unfold erS
  simp only []
  unfold setO
  simp only []
  rw [if_pos h]
theorem eOp2_of {f : D → D → Option RK} {a b : EM} {sl s1 s2 : List Za.Slot} {x y : D} {r : RK} (h1 : a sl = .ok (.v x) s1) (h2 : b s1 = .ok (.v y) s2) (h3 : f x y = some r) : eOp2 f a b sl = retR (some r) s2 := by
  rw [eOp2_r, h1]
  unfold erO
  simp only []
  rw [h2]
  unfold erO2
  simp only []
  unfold opC cont frz
  simp only [h3]
theorem sIf_of {t : TM} {a b : SM} {sl : List Za.Slot} {x : Bool} (h : t sl = .ok x sl) : sIf t a b sl = if x = true then a sl else b sl := by
  rw [sIf_r, h]; rfl
theorem solids_ints (xs : List Int) : solids (xs.map D.int) = true := by
  induction xs with
  | nil => rfl
  | cons x xs ih => simp [solids, solid, ih]
/-- take, called at the box in slot 0 -/
theorem takeC {cs : List Int} {b : D} {rest : List Za.Slot} {m : EM} {n : Int} (hb : Box cs b) (he : m (.io b :: rest) = .ok (.v (.int n)) (.io b :: rest)) (hn : 0 < n ∧ n < 2 ^ 20) :
    ∃ (v : Int) (b' : D), Box cs b' ∧ 0 ≤ v ∧ v < n ∧ eCall F_law_take [true, false] (lCons (eVar 0) (lCons m lNil)) (.io b :: rest) = .ok (.v (.int v)) (.io b' :: rest) := by
  refine take_call (i := 0) (s := .io b) rfl rfl hb ?_ hn rfl
  rw [eV_r, he]; rfl
/-! keys -/
def kyB : SM := (sSeq (sExpr (eMut 2 uAppend (lCons (eVar 3) (lNil))))
    (sSet 3 (eOp2 oAdd (eOp2 oAdd (eVar 3) (eC (.int 1))) (eOp2 oMul (eCall F_law_take [true, false] (lCons (eVar 0) (lCons (eC (.int 3)) (lNil)))) (eCall F_law_take [true, false] (lCons (eVar 0) (lCons (eC (.int 240)) (lNil))))))))
theorem kyB_eq {cs : List Int} {b : D} (c : D) (ks : List Int) (l : Int) (s4 : Za.Slot) (hb : Box cs b) (hl : ks.length ≤ 1000) : ∃ (b' : D) (l' : Int), Box cs b' ∧ kyB [.io b, .val c, .own (LL ks), .val (.int l), s4] = .nx [.io b', .val c, .own (LL (ks ++ [l])), .val (.int l'), s4] := by
  have e1 : (sExpr (eMut 2 uAppend (lCons (eVar 3) (lNil)))) [.io b, .val c, .own (LL ks), .val (.int l), s4] = .nx [.io b, .val c, .own (LL (ks ++ [l])), .val (.int l), s4] := by
    refine sExpr_eq (eMut_eq (i := 2) (f := uAppend) (s := .own (LL ks)) (d := LL ks) (s' := .own (LL ks)) (d' := LL ks) (sl' := [.io b, .val c, .own (LL ks), .val (.int l), s4]) (as := [.v (.int l)]) rfl rfl rfl ?_ rfl rfl rfl rfl (append_eq ks l hl))
    simp [fnM, fin, outsOf, argS, eB_r, eV_r, op2_r, eOp2_r, erO, erO2, erB, erV, opC, retR, cont, frz, mineD, tB_r, erT, trC, tTr_r, erTr, trE, trD, truth, tAndM_r, trA, tOrM_r, trO, tNotM_r, trN, eAndV_r, trAV, eOrV_r, trOV, eNotV_r, trNV, eIf_r, trIV, eVar_r, slV, slA, eC_r, lNil_r, lCons_r, erC, lrC, eFn_r, lrF, lrF2, conts, eTup_r, lrT, lrT2, vals, eLst_r, lrL, lrL2, sSeq_r, srQ, sExpr_r, erE, sRet_r, erR, sSkip_r, sRetN_r, sIf_r, trI, sStore_r, erS, sSet_r, sOwn_r, sSetX_r, setX, setO, setV_r, avV, storable, eCall_r, lrK, mkK, mkArgs, callR, wb, okRet, okErr, sRaise_r, erX, ePart_none, ePart_some, erP, slI, eSl_r, erSl, slK_r, slK2_r, cutC, oSl, isMut, putMut, setAt, mutD, reD, sItem, itemK, bName, bTup, bAll, fLen, fInt, fList, oIx, oGt, oLt, oGe, oLe, oDiv, oMod, oMul, oAdd, oSub, oPow, o2I, o2C, small, isLst, oNotN, oIsN, Za.isNon, oIn, seqD, flat_int, flats_ints, mst1, mst2, mst3, mst4, or_ite, and_ite, eKid_r, slKd, kdV, flat_str, flat_bl, flat_non, flat_ints, eqv_ints, eqvs_ints, setX, noAl]
  obtain ⟨v, b1, hb1, v0, v1, t1⟩ := takeC (n := 3) (m := eC (.int 3)) (rest := [.val c, .own (LL (ks ++ [l])), .val (.int l), s4]) hb rfl (by omega)
  obtain ⟨w, b2, hb2, w0, w1, t2⟩ := takeC (n := 240) (m := eC (.int 240)) (rest := [.val c, .own (LL (ks ++ [l])), .val (.int l), s4]) hb1 rfl (by omega)
  refine ⟨b2, l + 1 + v * w, hb2, ?_⟩
  have m1 : oMul (.int v) (.int w) = some (.val (.int (v * w))) := by
    have : small v = true := by unfold small; exact decide_eq_true ⟨by omega, by omega⟩
    unfold oMul o2I
    simp [this]
  have e2 := eOp2_of t1 t2 m1
  have e3 : eOp2 oAdd (eVar 3) (eC (.int 1)) [.io b, .val c, .own (LL (ks ++ [l])), .val (.int l), s4] = .ok (.v (.int (l + 1))) [.io b, .val c, .own (LL (ks ++ [l])), .val (.int l), s4] := by simp [fnM, fin, outsOf, argS, eB_r, eV_r, op2_r, eOp2_r, erO, erO2, erB, erV, opC, retR, cont, frz, mineD, tB_r, erT, trC, tTr_r, erTr, trE, trD, truth, tAndM_r, trA, tOrM_r, trO, tNotM_r, trN, eAndV_r, trAV, eOrV_r, trOV, eNotV_r, trNV, eIf_r, trIV, eVar_r, slV, slA, eC_r, lNil_r, lCons_r, erC, lrC, eFn_r, lrF, lrF2, conts, eTup_r, lrT, lrT2, vals, eLst_r, lrL, lrL2, sSeq_r, srQ, sExpr_r, erE, sRet_r, erR, sSkip_r, sRetN_r, sIf_r, trI, sStore_r, erS, sSet_r, sOwn_r, sSetX_r, setX, setO, setV_r, avV, storable, eCall_r, lrK, mkK, mkArgs, callR, wb, okRet, okErr, sRaise_r, erX, ePart_none, ePart_some, erP, slI, eSl_r, erSl, slK_r, slK2_r, cutC, oSl, isMut, putMut, setAt, mutD, reD, sItem, itemK, bName, bTup, bAll, fLen, fInt, fList, oIx, oGt, oLt, oGe, oLe, oDiv, oMod, oMul, oAdd, oSub, oPow, o2I, o2C, small, isLst, oNotN, oIsN, Za.isNon, oIn, seqD, flat_int, flats_ints, mst1, mst2, mst3, mst4, or_ite, and_ite, eKid_r, slKd, kdV, flat_str, flat_bl, flat_non, flat_ints, eqv_ints, eqvs_ints, setX, noAl]
  have e4 := eOp2_of (f := oAdd) (r := .val (.int (l + 1 + v * w))) e3 e2 rfl
  unfold kyB
  rw [sSeq_nx e1]
  exact sSet_of e4 rfl rfl
theorem ky_loop {cs : List Int} (c : D) : ∀ (ds : List D) (b : D) (ks : List Int) (l : Int) (s4 : Za.Slot), Box cs b → free s4 → ks.length + ds.length ≤ 1000 →
    ∃ (b' : D) (ks' : List Int) (l' : Int) (t4 : Za.Slot), Box cs b' ∧ ks'.length = ks.length + ds.length ∧ forL (fun _ => true) (bName 4) kyB ds [.io b, .val c, .own (LL ks), .val (.int l), s4] = .nx [.io b', .val c, .own (LL ks'), .val (.int l'), t4] := by
  intro ds
  induction ds with
  | nil => intro b ks l s4 hb _ _; exact ⟨b, ks, l, s4, hb, rfl, rfl⟩
  | cons d ds ih =>
    intro b ks l s4 hb f hl
    have hbd : bName 4 d [.io b, .val c, .own (LL ks), .val (.int l), s4] = some [.io b, .val c, .own (LL ks), .val (.int l), .val d] := by
      rcases f with rfl | ⟨d', rfl⟩ <;> simp [bName, storable]
    obtain ⟨b1, l1, hb1, e1⟩ := kyB_eq c ks l (.val d) hb (by simp at hl; omega)
    obtain ⟨b2, ks2, l2, t4, hb2, hk, e2⟩ := ih b1 (ks ++ [l]) l1 (.val d) hb1 (.inr ⟨d, rfl⟩) (by simp at hl ⊢; omega)
    exact ⟨b2, ks2, l2, t4, hb2, by simp at hk ⊢; omega, (forL_cons _ _ _ _ _ hbd e1 rfl).trans e2⟩
theorem rngD_len (lo : Int) (n : Nat) : (rngD lo n).length = n := by simp [rngD]
theorem keys_eq {cs : List Int} {b : D} {c : Int} (hb : Box cs b) (hc : 0 ≤ c ∧ c ≤ 12) : ∃ (b' : D) (ks : List Int), Box cs b' ∧ (ks.length : Int) = c ∧ F_law_keys [.io b, .v (.int c)] = .ok (LL ks) true [b'] := by
  obtain ⟨v, b1, hb1, v0, v1, t1⟩ := takeC (n := 600) (m := eC (.int 600)) (rest := [.val (.int c), .own (LL []), .emp, .emp]) hb rfl (by omega)
  obtain ⟨b2, ks, l, t4, hb2, hk, e2⟩ := ky_loop (.int c) (rngD 0 c.toNat) b1 [] v .emp hb1 (.inl rfl) (by rw [rngD_len]; simp; omega)
  rw [rngD_len] at hk
  simp at hk
  obtain ⟨b3, od, hb3, hp, e3⟩ := order_eq ks hb2 (by omega)
  refine ⟨b3, od, hb3, by rw [hp.length_eq]; omega, ?_⟩
  have s2 := sSet_of (i := 3) t1 rfl rfl
  have s3 := (sFor_none (y := bName 4) (z := kyB) (rngI (l := lCons (eVar 1) lNil) (sl := [.io b1, .val (.int c), .own (LL []), .val (.int v), .emp]) (j := c) rfl (by omega))).trans e2
  have s4 : sRet (eCall F_law_order [true, false] (lCons (eVar 0) (lCons (eVarZ 2) (lNil)))) [.io b2, .val (.int c), .own (LL ks), .val (.int l), t4] = .ret (.n (LL od)) [.io b3, .val (.int c), .val (LL ks), .val (.int l), t4] := by
    have h : lCons (eVar 0) (lCons (eVarZ 2) lNil) [.io b2, .val (.int c), .own (LL ks), .val (.int l), t4] = .ok [.s 0, .v (LL ks)] [.io b2, .val (.int c), .val (LL ks), .val (.int l), t4] := rfl
    rw [sRet_r, eCall_r, h]
    obtain ⟨O, hO⟩ : ∃ O, O = F_law_order := ⟨_, rfl⟩
    rw [← hO] at e3 ⊢
    clear hO
    simp [fnM, fin, outsOf, argS, eB_r, eV_r, op2_r, eOp2_r, erO, erO2, erB, erV, opC, retR, cont, frz, mineD, tB_r, erT, trC, tTr_r, erTr, trE, trD, truth, tAndM_r, trA, tOrM_r, trO, tNotM_r, trN, eAndV_r, trAV, eOrV_r, trOV, eNotV_r, trNV, eIf_r, trIV, eVar_r, slV, slA, eC_r, lNil_r, lCons_r, erC, lrC, eFn_r, lrF, lrF2, conts, eTup_r, lrT, lrT2, vals, eLst_r, lrL, lrL2, sSeq_r, srQ, sExpr_r, erE, sRet_r, erR, sSkip_r, sRetN_r, sIf_r, trI, sStore_r, erS, sSet_r, sOwn_r, sSetX_r, setX, setO, setV_r, avV, storable, eCall_r, lrK, mkK, mkArgs, callR, wb, okRet, okErr, sRaise_r, erX, ePart_none, ePart_some, erP, slI, eSl_r, erSl, slK_r, slK2_r, cutC, oSl, isMut, putMut, setAt, mutD, reD, sItem, itemK, bName, bTup, bAll, fLen, fInt, fList, oIx, oGt, oLt, oGe, oLe, oDiv, oMod, oMul, oAdd, oSub, oPow, o2I, o2C, small, isLst, oNotN, oIsN, Za.isNon, oIn, seqD, flat_int, flats_ints, mst1, mst2, mst3, mst4, or_ite, and_ite, eKid_r, slKd, kdV, flat_str, flat_bl, flat_non, flat_ints, eqv_ints, eqvs_ints, setX, noAl, e3]
  have hm : m_law_keys = sSeq (sOwn 2 (eLst (lNil))) (sSeq (sSet 3 (eCall F_law_take [true, false] (lCons (eVar 0) (lCons (eC (.int 600)) (lNil))))) (sSeq (sFor (iRng (lCons (eVar 1) lNil)) (bName 4) kyB) (sRet (eCall F_law_order [true, false] (lCons (eVar 0) (lCons (eVarZ 2) (lNil))))))) := rfl
  have h : m_law_keys [.io b, .val (.int c), .emp, .emp, .emp] = .ret (.n (LL od)) [.io b3, .val (.int c), .val (LL ks), .val (.int l), t4] := by
    rw [hm, sSeq_nx (s1 := [.io b, .val (.int c), .own (LL []), .emp, .emp]) (own_nil rfl), sSeq_nx s2]
    exact (sSeq_nx s3).trans s4
  unfold F_law_keys
  refine (fnM_eq (n := 5) (args := [.io b, .v (.int c)]) (sl := [.io b, .val (.int c), .emp, .emp, .emp]) rfl h).trans ?_
  rfl
/-! widened -/
theorem sItem_of {i j : Nat} {kx m : EM} {sl s1 s2 : List Za.Slot} {s : Za.Slot} {xs : List Int} {x : Int} (h1 : m sl = .ok (.v (.int x)) s1) (h2 : kx s1 = .ok (.v (.int (j : Int))) s2) (hm : isMut s1 i = true) (h3 : s2[i]? = some s) (h4 : mutD s = some (LL xs)) (hj : j < xs.length) : sItem i kx m sl = .nx (s2.set i (reD s (LL (xs.set j x)))) := by
  unfold sItem
  rw [h1]
  simp only [frz]
  unfold itemK
  rw [if_pos hm, h2]
  simp only [cont]
  unfold putMut
  rw [h3]
  simp only [h4, setAt, List.length_map]
  rw [ixN_nat hj]
  simp only [Option.map_some]
  show _ = SR.nx (s2.set i (reD s (.lst ((xs.set j x).map D.int))))
  rw [List.map_set]
theorem widened_eq {cs : List Int} {b : D} (ks : List Int) (hb : Box cs b) (hl : ks.length ≤ 1000) : ∃ (b' : D) (w : List Int), Box cs b' ∧ w.length = ks.length ∧ F_law_widened [.io b, .v (LL ks)] = .ok (LL w) true [b'] := by
  obtain ⟨v, b1, hb1, v0, v1, t1⟩ := takeC (n := 8) (m := eC (.int 8)) (rest := [.val (LL ks), .own (LL ks), .emp, .emp]) hb rfl (by omega)
  obtain ⟨p, b2, hb2, p0, p1, t2⟩ := takeC (n := (ks.length : Int) + 1) (m := eOp2 oAdd (eFn fLen (lCons (eVar 2) lNil)) (eC (.int 1))) (rest := [.val (LL ks), .own (LL ks), .val (.int v), .emp]) hb1 (by simp [fnM, fin, outsOf, argS, eB_r, eV_r, op2_r, eOp2_r, erO, erO2, erB, erV, opC, retR, cont, frz, mineD, tB_r, erT, trC, tTr_r, erTr, trE, trD, truth, tAndM_r, trA, tOrM_r, trO, tNotM_r, trN, eAndV_r, trAV, eOrV_r, trOV, eNotV_r, trNV, eIf_r, trIV, eVar_r, slV, slA, eC_r, lNil_r, lCons_r, erC, lrC, eFn_r, lrF, lrF2, conts, eTup_r, lrT, lrT2, vals, eLst_r, lrL, lrL2, sSeq_r, srQ, sExpr_r, erE, sRet_r, erR, sSkip_r, sRetN_r, sIf_r, trI, sStore_r, erS, sSet_r, sOwn_r, sSetX_r, setX, setO, setV_r, avV, storable, eCall_r, lrK, mkK, mkArgs, callR, wb, okRet, okErr, sRaise_r, erX, ePart_none, ePart_some, erP, slI, eSl_r, erSl, slK_r, slK2_r, cutC, oSl, isMut, putMut, setAt, mutD, reD, sItem, itemK, bName, bTup, bAll, fLen, fInt, fList, oIx, oGt, oLt, oGe, oLe, oDiv, oMod, oMul, oAdd, oSub, oPow, o2I, o2C, small, isLst, oNotN, oIsN, Za.isNon, oIn, seqD, flat_int, flats_ints, mst1, mst2, mst3, mst4, or_ite, and_ite, eKid_r, slKd, kdV, flat_str, flat_bl, flat_non, flat_ints, eqv_ints, eqvs_ints, setX, noAl]) (by omega)
  obtain ⟨j, rfl⟩ := Int.eq_ofNat_of_zero_le p0
  have s0 : (sOwn 2 (eFn fList (lCons (eVar 1) lNil))) [.io b, .val (LL ks), .emp, .emp, .emp] = .nx [.io b, .val (LL ks), .own (LL ks), .emp, .emp] := by simp [fnM, fin, outsOf, argS, eB_r, eV_r, op2_r, eOp2_r, erO, erO2, erB, erV, opC, retR, cont, frz, mineD, tB_r, erT, trC, tTr_r, erTr, trE, trD, truth, tAndM_r, trA, tOrM_r, trO, tNotM_r, trN, eAndV_r, trAV, eOrV_r, trOV, eNotV_r, trNV, eIf_r, trIV, eVar_r, slV, slA, eC_r, lNil_r, lCons_r, erC, lrC, eFn_r, lrF, lrF2, conts, eTup_r, lrT, lrT2, vals, eLst_r, lrL, lrL2, sSeq_r, srQ, sExpr_r, erE, sRet_r, erR, sSkip_r, sRetN_r, sIf_r, trI, sStore_r, erS, sSet_r, sOwn_r, sSetX_r, setX, setO, setV_r, avV, storable, eCall_r, lrK, mkK, mkArgs, callR, wb, okRet, okErr, sRaise_r, erX, ePart_none, ePart_some, erP, slI, eSl_r, erSl, slK_r, slK2_r, cutC, oSl, isMut, putMut, setAt, mutD, reD, sItem, itemK, bName, bTup, bAll, fLen, fInt, fList, oIx, oGt, oLt, oGe, oLe, oDiv, oMod, oMul, oAdd, oSub, oPow, o2I, o2C, small, isLst, oNotN, oIsN, Za.isNon, oIn, seqD, flat_int, flats_ints, mst1, mst2, mst3, mst4, or_ite, and_ite, eKid_r, slKd, kdV, flat_str, flat_bl, flat_non, flat_ints, eqv_ints, eqvs_ints, setX, noAl]
  have s1 := sSet_of (i := 3) t1 rfl rfl
  have s2 := sSet_of (i := 4) t2 rfl rfl
  have i1 : ∃ w : List Int, w.length = ks.length ∧ (sIf (tAndM (tB (eOp2 oLt (eVar 4) (eFn fLen (lCons (eVar 2) lNil)))) (tB (eOp2 oEq (eVar 3) (eC (.int 0))))) (sItem 2 (eVar 4) (eC (.int 9999))) (sSkip)) [.io b2, .val (LL ks), .own (LL ks), .val (.int v), .val (.int (j : Int))] = .nx [.io b2, .val (LL ks), .own (LL w), .val (.int v), .val (.int (j : Int))] := by
    rw [sIf_of (x := decide ((j : Int) < ks.length) && (v == 0)) (by simp [fnM, fin, outsOf, argS, eB_r, eV_r, op2_r, eOp2_r, erO, erO2, erB, erV, opC, retR, cont, frz, mineD, tB_r, erT, trC, tTr_r, erTr, trE, trD, truth, tAndM_r, trA, tOrM_r, trO, tNotM_r, trN, eAndV_r, trAV, eOrV_r, trOV, eNotV_r, trNV, eIf_r, trIV, eVar_r, slV, slA, eC_r, lNil_r, lCons_r, erC, lrC, eFn_r, lrF, lrF2, conts, eTup_r, lrT, lrT2, vals, eLst_r, lrL, lrL2, sSeq_r, srQ, sExpr_r, erE, sRet_r, erR, sSkip_r, sRetN_r, sIf_r, trI, sStore_r, erS, sSet_r, sOwn_r, sSetX_r, setX, setO, setV_r, avV, storable, eCall_r, lrK, mkK, mkArgs, callR, wb, okRet, okErr, sRaise_r, erX, ePart_none, ePart_some, erP, slI, eSl_r, erSl, slK_r, slK2_r, cutC, oSl, isMut, putMut, setAt, mutD, reD, sItem, itemK, bName, bTup, bAll, fLen, fInt, fList, oIx, oGt, oLt, oGe, oLe, oDiv, oMod, oMul, oAdd, oSub, oPow, o2I, o2C, small, isLst, oNotN, oIsN, Za.isNon, oIn, seqD, flat_int, flats_ints, mst1, mst2, mst3, mst4, or_ite, and_ite, eKid_r, slKd, kdV, flat_str, flat_bl, flat_non, flat_ints, eqv_ints, eqvs_ints, setX, noAl, oEq, eqv])]
    by_cases h : (decide ((j : Int) < ks.length) && (v == 0)) = true
    · rw [if_pos h]
      simp at h
      exact ⟨_, List.length_set .., sItem_of (s := .own (LL ks)) (xs := ks) rfl rfl rfl rfl rfl h.1⟩
    · rw [if_neg h]; exact ⟨ks, rfl, rfl⟩
  obtain ⟨w, hw, i1⟩ := i1
  have i2 : ∃ w2 : List Int, w2.length = w.length ∧ (sIf (tAndM (tB (eOp2 oLt (eVar 4) (eFn fLen (lCons (eVar 2) lNil)))) (tAndM (tB (eOp2 oEq (eVar 3) (eC (.int 1)))) (tB (eOp2 (oIn true) (eC (.int 0)) (eVar 2))))) (sItem 2 (eVar 4) (eC (.int 0))) (sSkip)) [.io b2, .val (LL ks), .own (LL w), .val (.int v), .val (.int (j : Int))] = .nx [.io b2, .val (LL ks), .own (LL w2), .val (.int v), .val (.int (j : Int))] := by
    rw [sIf_of (x := decide ((j : Int) < w.length) && (decide (v = 1) && decide ((0 : Int) ∉ w))) (by simp [fnM, fin, outsOf, argS, eB_r, eV_r, op2_r, eOp2_r, erO, erO2, erB, erV, opC, retR, cont, frz, mineD, tB_r, erT, trC, tTr_r, erTr, trE, trD, truth, tAndM_r, trA, tOrM_r, trO, tNotM_r, trN, eAndV_r, trAV, eOrV_r, trOV, eNotV_r, trNV, eIf_r, trIV, eVar_r, slV, slA, eC_r, lNil_r, lCons_r, erC, lrC, eFn_r, lrF, lrF2, conts, eTup_r, lrT, lrT2, vals, eLst_r, lrL, lrL2, sSeq_r, srQ, sExpr_r, erE, sRet_r, erR, sSkip_r, sRetN_r, sIf_r, trI, sStore_r, erS, sSet_r, sOwn_r, sSetX_r, setX, setO, setV_r, avV, storable, eCall_r, lrK, mkK, mkArgs, callR, wb, okRet, okErr, sRaise_r, erX, ePart_none, ePart_some, erP, slI, eSl_r, erSl, slK_r, slK2_r, cutC, oSl, isMut, putMut, setAt, mutD, reD, sItem, itemK, bName, bTup, bAll, fLen, fInt, fList, oIx, oGt, oLt, oGe, oLe, oDiv, oMod, oMul, oAdd, oSub, oPow, o2I, o2C, small, isLst, oNotN, oIsN, Za.isNon, oIn, seqD, flat_int, flats_ints, mst1, mst2, mst3, mst4, or_ite, and_ite, eKid_r, slKd, kdV, flat_str, flat_bl, flat_non, flat_ints, eqv_ints, eqvs_ints, setX, noAl, oEq, eqv, any_ints'])]
    by_cases h : (decide ((j : Int) < w.length) && (decide (v = 1) && decide ((0 : Int) ∉ w))) = true
    · rw [if_pos h]
      simp at h
      exact ⟨_, List.length_set .., sItem_of (s := .own (LL w)) (xs := w) rfl rfl rfl rfl rfl h.1⟩
    · rw [if_neg h]; exact ⟨w, rfl, rfl⟩
  obtain ⟨w2, hw2, i2⟩ := i2
  refine ⟨b2, w2, hb2, by omega, ?_⟩
  have h : m_law_widened [.io b, .val (LL ks), .emp, .emp, .emp] = .ret (.s 2) [.io b2, .val (LL ks), .own (LL w2), .val (.int v), .val (.int (j : Int))] := by
    have hm : m_law_widened = sSeq (sOwn 2 (eFn fList (lCons (eVar 1) lNil)))
      (sSeq (sSet 3 (eCall F_law_take [true, false] (lCons (eVar 0) (lCons (eC (.int 8)) (lNil)))))
      (sSeq (sSet 4 (eCall F_law_take [true, false] (lCons (eVar 0) (lCons (eOp2 oAdd (eFn fLen (lCons (eVar 2) lNil)) (eC (.int 1))) (lNil)))))
      (sSeq (sIf (tAndM (tB (eOp2 oLt (eVar 4) (eFn fLen (lCons (eVar 2) lNil)))) (tB (eOp2 oEq (eVar 3) (eC (.int 0))))) (sItem 2 (eVar 4) (eC (.int 9999))) (sSkip))
      (sSeq (sIf (tAndM (tB (eOp2 oLt (eVar 4) (eFn fLen (lCons (eVar 2) lNil)))) (tAndM (tB (eOp2 oEq (eVar 3) (eC (.int 1)))) (tB (eOp2 (oIn true) (eC (.int 0)) (eVar 2))))) (sItem 2 (eVar 4) (eC (.int 0))) (sSkip))
      (sRet (eVar 2)))))) := rfl
    rw [hm, sSeq_nx s0, sSeq_nx s1]
    refine (sSeq_nx s2).trans ?_
    refine (sSeq_nx i1).trans ?_
    exact (sSeq_nx i2).trans rfl
  unfold F_law_widened
  refine (fnM_eq (n := 5) (args := [.io b, .v (LL ks)]) (sl := [.io b, .val (LL ks), .emp, .emp, .emp]) rfl h).trans ?_
  rfl
end Zk06
end
section
set_option linter.all false
set_option maxRecDepth 10000
namespace Zk06
open PySem PySem.Spec PyProof.Rows L2 Za
/-! second -/
def seB : SM := (sOwn 3 (eCall F_law_exchanged [false, false] (lCons (eVar 3) (lCons (eCall F_law_take [true, false] (lCons (eVar 0) (lCons (eOp2 oSub (eFn fLen (lCons (eVar 3) lNil)) (eC (.int 1))) (lNil)))) (lNil)))))
theorem lCons2 {m1 m2 : EM} {sl s1 s2 : List Za.Slot} {a1 a2 : AV} (h1 : m1 sl = .ok a1 s1) (h2 : m2 s1 = .ok a2 s2) : lCons m1 (lCons m2 lNil) sl = .ok [frz a1, frz a2] s2 := by
  rw [lCons_r, h1]
  unfold erC
  simp only []
  rw [lCons1 h2]
  rfl
theorem seB_eq {cs : List Int} {b : D} (f w : D) (xs : List Int) (s4 : Za.Slot) (hb : Box cs b) (hl : 1 < xs.length ∧ xs.length ≤ 1000) : ∃ (b' : D) (ys : List Int), Box cs b' ∧ ys.length = xs.length ∧ seB [.io b, .val f, .val w, .own (LL xs), s4] = .nx [.io b', .val f, .val w, .own (LL ys), s4] := by
  obtain ⟨p, b1, hb1, p0, p1, t1⟩ := takeC (n := (xs.length : Int) - 1) (m := eOp2 oSub (eFn fLen (lCons (eVar 3) lNil)) (eC (.int 1))) (rest := [.val f, .val w, .own (LL xs), s4]) hb (by simp [fnM, fin, outsOf, argS, eB_r, eV_r, op2_r, eOp2_r, erO, erO2, erB, erV, opC, retR, cont, frz, mineD, tB_r, erT, trC, tTr_r, erTr, trE, trD, truth, tAndM_r, trA, tOrM_r, trO, tNotM_r, trN, eAndV_r, trAV, eOrV_r, trOV, eNotV_r, trNV, eIf_r, trIV, eVar_r, slV, slA, eC_r, lNil_r, lCons_r, erC, lrC, eFn_r, lrF, lrF2, conts, eTup_r, lrT, lrT2, vals, eLst_r, lrL, lrL2, sSeq_r, srQ, sExpr_r, erE, sRet_r, erR, sSkip_r, sRetN_r, sIf_r, trI, sStore_r, erS, sSet_r, sOwn_r, sSetX_r, setX, setO, setV_r, avV, storable, eCall_r, lrK, mkK, mkArgs, callR, wb, okRet, okErr, sRaise_r, erX, ePart_none, ePart_some, erP, slI, eSl_r, erSl, slK_r, slK2_r, cutC, oSl, isMut, putMut, setAt, mutD, reD, sItem, itemK, bName, bTup, bAll, fLen, fInt, fList, oIx, oGt, oLt, oGe, oLe, oDiv, oMod, oMul, oAdd, oSub, oPow, o2I, o2C, small, isLst, oNotN, oIsN, Za.isNon, oIn, seqD, flat_int, flats_ints, mst1, mst2, mst3, mst4, or_ite, and_ite, eKid_r, slKd, kdV, flat_str, flat_bl, flat_non, flat_ints, eqv_ints, eqvs_ints, setX, noAl]) (by omega)
  obtain ⟨j, rfl⟩ := Int.eq_ofNat_of_zero_le p0
  have e := law_exchanged_eq xs j (by omega)
  have l := lCons2 (m1 := eVar 3) (a1 := .s 3) (sl := [.io b, .val f, .val w, .own (LL xs), s4]) (s1 := [.io b, .val f, .val w, .own (LL xs), s4]) rfl t1
  refine ⟨b1, exch xs j, hb1, exch_len xs j, ?_⟩
  refine sOwn_of (i := 3) (sl1 := [.io b1, .val f, .val w, .own (LL xs), s4]) ?_ rfl
  rw [eCall_r, l]
  obtain ⟨E, hE⟩ : ∃ E, E = F_law_exchanged := ⟨_, rfl⟩
  rw [← hE] at e ⊢
  clear hE
  simp [fnM, fin, outsOf, argS, eB_r, eV_r, op2_r, eOp2_r, erO, erO2, erB, erV, opC, retR, cont, frz, mineD, tB_r, erT, trC, tTr_r, erTr, trE, trD, truth, tAndM_r, trA, tOrM_r, trO, tNotM_r, trN, eAndV_r, trAV, eOrV_r, trOV, eNotV_r, trNV, eIf_r, trIV, eVar_r, slV, slA, eC_r, lNil_r, lCons_r, erC, lrC, eFn_r, lrF, lrF2, conts, eTup_r, lrT, lrT2, vals, eLst_r, lrL, lrL2, sSeq_r, srQ, sExpr_r, erE, sRet_r, erR, sSkip_r, sRetN_r, sIf_r, trI, sStore_r, erS, sSet_r, sOwn_r, sSetX_r, setX, setO, setV_r, avV, storable, eCall_r, lrK, mkK, mkArgs, callR, wb, okRet, okErr, sRaise_r, erX, ePart_none, ePart_some, erP, slI, eSl_r, erSl, slK_r, slK2_r, cutC, oSl, isMut, putMut, setAt, mutD, reD, sItem, itemK, bName, bTup, bAll, fLen, fInt, fList, oIx, oGt, oLt, oGe, oLe, oDiv, oMod, oMul, oAdd, oSub, oPow, o2I, o2C, small, isLst, oNotN, oIsN, Za.isNon, oIn, seqD, flat_int, flats_ints, mst1, mst2, mst3, mst4, or_ite, and_ite, eKid_r, slKd, kdV, flat_str, flat_bl, flat_non, flat_ints, eqv_ints, eqvs_ints, setX, noAl, e, solidK, solids_ints]
theorem se_loop {cs : List Int} (f w : D) : ∀ (ds : List D) (b : D) (xs : List Int) (s4 : Za.Slot), Box cs b → free s4 → 1 < xs.length ∧ xs.length ≤ 1000 →
    ∃ (b' : D) (ys : List Int) (t4 : Za.Slot), Box cs b' ∧ ys.length = xs.length ∧ forL (fun _ => true) (bName 4) seB ds [.io b, .val f, .val w, .own (LL xs), s4] = .nx [.io b', .val f, .val w, .own (LL ys), t4] := by
  intro ds
  induction ds with
  | nil => intro b xs s4 hb _ _; exact ⟨b, xs, s4, hb, rfl, rfl⟩
  | cons d ds ih =>
    intro b xs s4 hb fr hl
    have hbd : bName 4 d [.io b, .val f, .val w, .own (LL xs), s4] = some [.io b, .val f, .val w, .own (LL xs), .val d] := by
      rcases fr with rfl | ⟨d', rfl⟩ <;> simp [bName, storable]
    obtain ⟨b1, y1, hb1, l1, e1⟩ := seB_eq f w xs (.val d) hb hl
    obtain ⟨b2, y2, t4, hb2, l2, e2⟩ := ih b1 y1 (.val d) hb1 (.inr ⟨d, rfl⟩) (by omega)
    exact ⟨b2, y2, t4, hb2, by omega, (forL_cons _ _ _ _ _ hbd e1 rfl).trans e2⟩
theorem sRet_of {m : EM} {sl s1 : List Za.Slot} {a : AV} (h : m sl = .ok a s1) : sRet m sl = .ret a s1 := by rw [sRet_r, h]; rfl
theorem second_eq {cs : List Int} {b : D} (xs : List Int) (hb : Box cs b) (hl : xs.length ≤ 1000) : ∃ (b' : D) (ys : List Int), Box cs b' ∧ ys.length = xs.length ∧ F_law_second [.io b, .v (LL xs)] = .ok (LL ys) true [b'] := by
  obtain ⟨v, b1, hb1, v0, v1, t1⟩ := takeC (n := 4) (m := eC (.int 4)) (rest := [.val (LL xs), .emp, .emp, .emp]) hb rfl (by omega)
  have s1 := sSet_of (i := 2) t1 rfl rfl
  have c0 : Za.tB (eOp2 oEq (eVar 2) (eC (.int 0))) [.io b1, .val (LL xs), .val (.int v), .emp, .emp] = .ok (v == 0) [.io b1, .val (LL xs), .val (.int v), .emp, .emp] := by simp [fnM, fin, outsOf, argS, eB_r, eV_r, op2_r, eOp2_r, erO, erO2, erB, erV, opC, retR, cont, frz, mineD, tB_r, erT, trC, tTr_r, erTr, trE, trD, truth, tAndM_r, trA, tOrM_r, trO, tNotM_r, trN, eAndV_r, trAV, eOrV_r, trOV, eNotV_r, trNV, eIf_r, trIV, eVar_r, slV, slA, eC_r, lNil_r, lCons_r, erC, lrC, eFn_r, lrF, lrF2, conts, eTup_r, lrT, lrT2, vals, eLst_r, lrL, lrL2, sSeq_r, srQ, sExpr_r, erE, sRet_r, erR, sSkip_r, sRetN_r, sIf_r, trI, sStore_r, erS, sSet_r, sOwn_r, sSetX_r, setX, setO, setV_r, avV, storable, eCall_r, lrK, mkK, mkArgs, callR, wb, okRet, okErr, sRaise_r, erX, ePart_none, ePart_some, erP, slI, eSl_r, erSl, slK_r, slK2_r, cutC, oSl, isMut, putMut, setAt, mutD, reD, sItem, itemK, bName, bTup, bAll, fLen, fInt, fList, oIx, oGt, oLt, oGe, oLe, oDiv, oMod, oMul, oAdd, oSub, oPow, o2I, o2C, small, isLst, oNotN, oIsN, Za.isNon, oIn, seqD, flat_int, flats_ints, mst1, mst2, mst3, mst4, or_ite, and_ite, eKid_r, slKd, kdV, flat_str, flat_bl, flat_non, flat_ints, eqv_ints, eqvs_ints, setX, noAl, oEq, eqv]
  have hm : m_law_second = sSeq (sSet 2 (eCall F_law_take [true, false] (lCons (eVar 0) (lCons (eC (.int 4)) (lNil)))))
      (sSeq (sIf (tB (eOp2 oEq (eVar 2) (eC (.int 0)))) (sRet (eCall F_law_order [true, false] (lCons (eVar 0) (lCons (eVar 1) (lNil))))) (sSkip))
      (sSeq (sOwn 3 (eFn fList (lCons (eVar 1) lNil)))
      (sSeq (sIf (tB (eOp2 oEq (eVar 2) (eC (.int 1)))) (sExpr (eMut 3 uReverse lNil)) (sSkip))
      (sSeq (sIf (tAndM (tB (eOp2 oEq (eVar 2) (eC (.int 2)))) (tB (eOp2 oGt (eFn fLen (lCons (eVar 3) lNil)) (eC (.int 1))))) (sFor (iRng (lCons (eCall F_law_take [true, false] (lCons (eVar 0) (lCons (eC (.int 7)) (lNil)))) lNil)) (bName 4) seB) (sSkip))
      (sRet (eVar 3)))))) := rfl
  by_cases h : v = 0
  · subst h
    obtain ⟨b2, od, hb2, hp, e⟩ := order_eq xs hb1 hl
    refine ⟨b2, od, hb2, hp.length_eq, ?_⟩
    have r1 : sRet (eCall F_law_order [true, false] (lCons (eVar 0) (lCons (eVar 1) (lNil)))) [.io b1, .val (LL xs), .val (.int 0), .emp, .emp] = .ret (.n (LL od)) [.io b2, .val (LL xs), .val (.int 0), .emp, .emp] := by
      refine sRet_of ?_
      rw [eCall_r]
      obtain ⟨O, hO⟩ : ∃ O, O = F_law_order := ⟨_, rfl⟩
      rw [← hO] at e ⊢
      clear hO
      simp [fnM, fin, outsOf, argS, eB_r, eV_r, op2_r, eOp2_r, erO, erO2, erB, erV, opC, retR, cont, frz, mineD, tB_r, erT, trC, tTr_r, erTr, trE, trD, truth, tAndM_r, trA, tOrM_r, trO, tNotM_r, trN, eAndV_r, trAV, eOrV_r, trOV, eNotV_r, trNV, eIf_r, trIV, eVar_r, slV, slA, eC_r, lNil_r, lCons_r, erC, lrC, eFn_r, lrF, lrF2, conts, eTup_r, lrT, lrT2, vals, eLst_r, lrL, lrL2, sSeq_r, srQ, sExpr_r, erE, sRet_r, erR, sSkip_r, sRetN_r, sIf_r, trI, sStore_r, erS, sSet_r, sOwn_r, sSetX_r, setX, setO, setV_r, avV, storable, eCall_r, lrK, mkK, mkArgs, callR, wb, okRet, okErr, sRaise_r, erX, ePart_none, ePart_some, erP, slI, eSl_r, erSl, slK_r, slK2_r, cutC, oSl, isMut, putMut, setAt, mutD, reD, sItem, itemK, bName, bTup, bAll, fLen, fInt, fList, oIx, oGt, oLt, oGe, oLe, oDiv, oMod, oMul, oAdd, oSub, oPow, o2I, o2C, small, isLst, oNotN, oIsN, Za.isNon, oIn, seqD, flat_int, flats_ints, mst1, mst2, mst3, mst4, or_ite, and_ite, eKid_r, slKd, kdV, flat_str, flat_bl, flat_non, flat_ints, eqv_ints, eqvs_ints, setX, noAl, e]
    have hh : m_law_second [.io b, .val (LL xs), .emp, .emp, .emp] = .ret (.n (LL od)) [.io b2, .val (LL xs), .val (.int 0), .emp, .emp] := by
      rw [hm, sSeq_nx s1, sSeq_r]
      show srQ (sIf _ _ _ [.io b1, .val (LL xs), .val (.int 0), .emp, .emp]) _ = _
      rw [sIf_of c0, if_pos (show ((0 : Int) == 0) = true by decide), r1]
      rfl
    unfold F_law_second
    refine (fnM_eq (n := 5) (args := [.io b, .v (LL xs)]) (sl := [.io b, .val (LL xs), .emp, .emp, .emp]) rfl hh).trans ?_
    rfl
  · have i0 : (sIf (tB (eOp2 oEq (eVar 2) (eC (.int 0)))) (sRet (eCall F_law_order [true, false] (lCons (eVar 0) (lCons (eVar 1) (lNil))))) (sSkip)) [.io b1, .val (LL xs), .val (.int v), .emp, .emp] = .nx [.io b1, .val (LL xs), .val (.int v), .emp, .emp] := by
      rw [sIf_of c0, if_neg (by simpa using h)]
      rfl
    have i1 : (sOwn 3 (eFn fList (lCons (eVar 1) lNil))) [.io b1, .val (LL xs), .val (.int v), .emp, .emp] = .nx [.io b1, .val (LL xs), .val (.int v), .own (LL xs), .emp] := by simp [fnM, fin, outsOf, argS, eB_r, eV_r, op2_r, eOp2_r, erO, erO2, erB, erV, opC, retR, cont, frz, mineD, tB_r, erT, trC, tTr_r, erTr, trE, trD, truth, tAndM_r, trA, tOrM_r, trO, tNotM_r, trN, eAndV_r, trAV, eOrV_r, trOV, eNotV_r, trNV, eIf_r, trIV, eVar_r, slV, slA, eC_r, lNil_r, lCons_r, erC, lrC, eFn_r, lrF, lrF2, conts, eTup_r, lrT, lrT2, vals, eLst_r, lrL, lrL2, sSeq_r, srQ, sExpr_r, erE, sRet_r, erR, sSkip_r, sRetN_r, sIf_r, trI, sStore_r, erS, sSet_r, sOwn_r, sSetX_r, setX, setO, setV_r, avV, storable, eCall_r, lrK, mkK, mkArgs, callR, wb, okRet, okErr, sRaise_r, erX, ePart_none, ePart_some, erP, slI, eSl_r, erSl, slK_r, slK2_r, cutC, oSl, isMut, putMut, setAt, mutD, reD, sItem, itemK, bName, bTup, bAll, fLen, fInt, fList, oIx, oGt, oLt, oGe, oLe, oDiv, oMod, oMul, oAdd, oSub, oPow, o2I, o2C, small, isLst, oNotN, oIsN, Za.isNon, oIn, seqD, flat_int, flats_ints, mst1, mst2, mst3, mst4, or_ite, and_ite, eKid_r, slKd, kdV, flat_str, flat_bl, flat_non, flat_ints, eqv_ints, eqvs_ints, setX, noAl]
    have i2 : ∃ ys : List Int, ys.length = xs.length ∧ (sIf (tB (eOp2 oEq (eVar 2) (eC (.int 1)))) (sExpr (eMut 3 uReverse lNil)) (sSkip)) [.io b1, .val (LL xs), .val (.int v), .own (LL xs), .emp] = .nx [.io b1, .val (LL xs), .val (.int v), .own (LL ys), .emp] := by
      rw [sIf_of (x := v == 1) (by simp [fnM, fin, outsOf, argS, eB_r, eV_r, op2_r, eOp2_r, erO, erO2, erB, erV, opC, retR, cont, frz, mineD, tB_r, erT, trC, tTr_r, erTr, trE, trD, truth, tAndM_r, trA, tOrM_r, trO, tNotM_r, trN, eAndV_r, trAV, eOrV_r, trOV, eNotV_r, trNV, eIf_r, trIV, eVar_r, slV, slA, eC_r, lNil_r, lCons_r, erC, lrC, eFn_r, lrF, lrF2, conts, eTup_r, lrT, lrT2, vals, eLst_r, lrL, lrL2, sSeq_r, srQ, sExpr_r, erE, sRet_r, erR, sSkip_r, sRetN_r, sIf_r, trI, sStore_r, erS, sSet_r, sOwn_r, sSetX_r, setX, setO, setV_r, avV, storable, eCall_r, lrK, mkK, mkArgs, callR, wb, okRet, okErr, sRaise_r, erX, ePart_none, ePart_some, erP, slI, eSl_r, erSl, slK_r, slK2_r, cutC, oSl, isMut, putMut, setAt, mutD, reD, sItem, itemK, bName, bTup, bAll, fLen, fInt, fList, oIx, oGt, oLt, oGe, oLe, oDiv, oMod, oMul, oAdd, oSub, oPow, o2I, o2C, small, isLst, oNotN, oIsN, Za.isNon, oIn, seqD, flat_int, flats_ints, mst1, mst2, mst3, mst4, or_ite, and_ite, eKid_r, slKd, kdV, flat_str, flat_bl, flat_non, flat_ints, eqv_ints, eqvs_ints, setX, noAl, oEq, eqv])]
      by_cases h1 : (v == 1) = true
      · rw [if_pos h1]
        refine ⟨xs.reverse, by simp, sExpr_eq (eMut_eq (i := 3) (f := uReverse) (s := .own (LL xs)) (d := LL xs) (s' := .own (LL xs)) (d' := LL xs) (d2 := LL xs.reverse) (r := .non) (sl' := [.io b1, .val (LL xs), .val (.int v), .own (LL xs), .emp]) (as := []) rfl rfl rfl rfl rfl rfl rfl rfl ?_)⟩
        simp [uReverse]
      · rw [if_neg h1]; exact ⟨xs, rfl, rfl⟩
    obtain ⟨ys, ly, i2⟩ := i2
    have i3 : ∃ (b' : D) (zs : List Int) (t4 : Za.Slot), Box cs b' ∧ zs.length = ys.length ∧ (sIf (tAndM (tB (eOp2 oEq (eVar 2) (eC (.int 2)))) (tB (eOp2 oGt (eFn fLen (lCons (eVar 3) lNil)) (eC (.int 1))))) (sFor (iRng (lCons (eCall F_law_take [true, false] (lCons (eVar 0) (lCons (eC (.int 7)) (lNil)))) lNil)) (bName 4) seB) (sSkip)) [.io b1, .val (LL xs), .val (.int v), .own (LL ys), .emp] = .nx [.io b', .val (LL xs), .val (.int v), .own (LL zs), t4] := by
      rw [sIf_of (x := decide (v = 2) && decide ((1 : Int) < ys.length)) (by simp [fnM, fin, outsOf, argS, eB_r, eV_r, op2_r, eOp2_r, erO, erO2, erB, erV, opC, retR, cont, frz, mineD, tB_r, erT, trC, tTr_r, erTr, trE, trD, truth, tAndM_r, trA, tOrM_r, trO, tNotM_r, trN, eAndV_r, trAV, eOrV_r, trOV, eNotV_r, trNV, eIf_r, trIV, eVar_r, slV, slA, eC_r, lNil_r, lCons_r, erC, lrC, eFn_r, lrF, lrF2, conts, eTup_r, lrT, lrT2, vals, eLst_r, lrL, lrL2, sSeq_r, srQ, sExpr_r, erE, sRet_r, erR, sSkip_r, sRetN_r, sIf_r, trI, sStore_r, erS, sSet_r, sOwn_r, sSetX_r, setX, setO, setV_r, avV, storable, eCall_r, lrK, mkK, mkArgs, callR, wb, okRet, okErr, sRaise_r, erX, ePart_none, ePart_some, erP, slI, eSl_r, erSl, slK_r, slK2_r, cutC, oSl, isMut, putMut, setAt, mutD, reD, sItem, itemK, bName, bTup, bAll, fLen, fInt, fList, oIx, oGt, oLt, oGe, oLe, oDiv, oMod, oMul, oAdd, oSub, oPow, o2I, o2C, small, isLst, oNotN, oIsN, Za.isNon, oIn, seqD, flat_int, flats_ints, mst1, mst2, mst3, mst4, or_ite, and_ite, eKid_r, slKd, kdV, flat_str, flat_bl, flat_non, flat_ints, eqv_ints, eqvs_ints, setX, noAl, oEq, eqv])]
      by_cases h1 : (decide (v = 2) && decide ((1 : Int) < ys.length)) = true
      · rw [if_pos h1]
        simp at h1
        obtain ⟨w, b2, hb2, w0, w1, t2⟩ := takeC (n := 7) (m := eC (.int 7)) (rest := [.val (LL xs), .val (.int v), .own (LL ys), .emp]) hb1 rfl (by omega)
        obtain ⟨b3, zs, t4, hb3, lz, e3⟩ := se_loop (LL xs) (.int v) (rngD 0 w.toNat) b2 ys .emp hb2 (.inl rfl) (by omega)
        exact ⟨b3, zs, t4, hb3, lz, (sFor_none (y := bName 4) (z := seB) (rngI (l := lCons (eCall F_law_take [true, false] (lCons (eVar 0) (lCons (eC (.int 7)) (lNil)))) lNil) (lCons1 t2) (by omega))).trans e3⟩
      · rw [if_neg h1]; exact ⟨b1, ys, .emp, hb1, rfl, rfl⟩
    obtain ⟨b2, zs, t4, hb2, lz, i3⟩ := i3
    refine ⟨b2, zs, hb2, by omega, ?_⟩
    have hh : m_law_second [.io b, .val (LL xs), .emp, .emp, .emp] = .ret (.s 3) [.io b2, .val (LL xs), .val (.int v), .own (LL zs), t4] := by
      rw [hm, sSeq_nx s1]
      refine (sSeq_nx i0).trans ?_
      rw [sSeq_nx i1, sSeq_nx i2, sSeq_nx i3]
      rfl
    unfold F_law_second
    refine (fnM_eq (n := 5) (args := [.io b, .v (LL xs)]) (sl := [.io b, .val (LL xs), .emp, .emp, .emp]) rfl hh).trans ?_
    rfl
end Zk06
end
section
set_option linter.all false
set_option maxRecDepth 10000
namespace Zk06
open PySem PySem.Spec PyProof.Rows L2 Za
/-! bent -/
abbrev beS (b : D) (f : D) (xs : List Int) (k : D) (way place : Int) (s6 : Za.Slot) : List Za.Slot := [.io b, .val f, .own (LL xs), .val k, .val (.int way), .val (.int place), s6, .emp]
/-- what each branch does: the box stays a box, at most 20 keys, the rest of the slots as it was -/
def BeOk (cs : List Int) (m : SM) : Prop := ∀ (b f : D) (xs : List Int) (k : D) (way : Int) (place : Nat) (s6 : Za.Slot), Box cs b → xs.length ≤ 20 → free s6 → place ≤ 1000 → ∃ (b' : D) (ys : List Int) (t6 : Za.Slot), Box cs b' ∧ ys.length ≤ 20 ∧ free t6 ∧ m (beS b f xs k way place s6) = .nx (beS b' f ys k way place t6)
theorem be_if {cs : List Int} {t : TM} {m : SM} (c : Int → Nat → Nat → Bool) (ht : ∀ (b f : D) (xs : List Int) (k : D) (way : Int) (place : Nat) (s6 : Za.Slot), t (beS b f xs k way place s6) = .ok (c way place xs.length) (beS b f xs k way place s6))
    (hm : ∀ (b f : D) (xs : List Int) (k : D) (way : Int) (place : Nat) (s6 : Za.Slot), Box cs b → xs.length ≤ 20 → free s6 → place ≤ 1000 → c way place xs.length = true → ∃ (b' : D) (ys : List Int) (t6 : Za.Slot), Box cs b' ∧ ys.length ≤ 20 ∧ free t6 ∧ m (beS b f xs k way place s6) = .nx (beS b' f ys k way place t6)) : BeOk cs (sIf t m sSkip) := by
  intro b f xs k way place s6 hb hl hf hp
  rw [sIf_of (ht b f xs k way place s6)]
  by_cases h : c way place xs.length = true
  · rw [if_pos h]; exact hm b f xs k way place s6 hb hl hf hp h
  · rw [if_neg h]; exact ⟨b, xs, s6, hb, hl, hf, rfl⟩
theorem be_seq {cs : List Int} {m n : SM} (h1 : BeOk cs m) (h2 : BeOk cs n) : BeOk cs (sSeq m n) := by
  intro b f xs k way place s6 hb hl hf hp
  obtain ⟨b1, y1, t1, hb1, l1, f1, e1⟩ := h1 b f xs k way place s6 hb hl hf hp
  obtain ⟨b2, y2, t2, hb2, l2, f2, e2⟩ := h2 b1 f y1 k way place t1 hb1 l1 f1 hp
  exact ⟨b2, y2, t2, hb2, l2, f2, (sSeq_nx e1).trans e2⟩
theorem be0 (cs : List Int) : BeOk cs (sIf (tAndM (tB (eOp2 oEq (eVar 4) (eC (.int 0)))) (tB (eOp2 oLt (eFn fLen (lCons (eVar 2) lNil)) (eC (.int 16))))) (sExpr (eMut 2 uInsert (lCons (eVar 5) (lCons (eOp2 oAdd (eC (.int 7000)) (eFn fLen (lCons (eVar 2) lNil))) (lNil))))) (sSkip)) := by
  refine be_if (fun way _ n => decide (way = 0) && decide ((n : Int) < 16)) (fun b f xs k way place s6 => by simp [fnM, fin, outsOf, argS, eB_r, eV_r, op2_r, eOp2_r, erO, erO2, erB, erV, opC, retR, cont, frz, mineD, tB_r, erT, trC, tTr_r, erTr, trE, trD, truth, tAndM_r, trA, tOrM_r, trO, tNotM_r, trN, eAndV_r, trAV, eOrV_r, trOV, eNotV_r, trNV, eIf_r, trIV, eVar_r, slV, slA, eC_r, lNil_r, lCons_r, erC, lrC, eFn_r, lrF, lrF2, conts, eTup_r, lrT, lrT2, vals, eLst_r, lrL, lrL2, sSeq_r, srQ, sExpr_r, erE, sRet_r, erR, sSkip_r, sRetN_r, sIf_r, trI, sStore_r, erS, sSet_r, sOwn_r, sSetX_r, setX, setO, setV_r, avV, storable, eCall_r, lrK, mkK, mkArgs, callR, wb, okRet, okErr, sRaise_r, erX, ePart_none, ePart_some, erP, slI, eSl_r, erSl, slK_r, slK2_r, cutC, oSl, isMut, putMut, setAt, mutD, reD, sItem, itemK, bName, bTup, bAll, fLen, fInt, fList, oIx, oGt, oLt, oGe, oLe, oDiv, oMod, oMul, oAdd, oSub, oPow, o2I, o2C, small, isLst, oNotN, oIsN, Za.isNon, oIn, seqD, flat_int, flats_ints, mst1, mst2, mst3, mst4, or_ite, and_ite, eKid_r, slKd, kdV, flat_str, flat_bl, flat_non, flat_ints, eqv_ints, eqvs_ints, setX, noAl, oEq, eqv]) ?_
  intro b f xs k way place s6 hb hl hf hp hc
  simp at hc
  have l : lCons (eVar 5) (lCons (eOp2 oAdd (eC (.int 7000)) (eFn fLen (lCons (eVar 2) lNil))) (lNil)) (beS b f xs k way place s6) = .ok [.v (.int (place : Int)), .v (.int (7000 + (xs.length : Int)))] (beS b f xs k way place s6) := by simp [fnM, fin, outsOf, argS, eB_r, eV_r, op2_r, eOp2_r, erO, erO2, erB, erV, opC, retR, cont, frz, mineD, tB_r, erT, trC, tTr_r, erTr, trE, trD, truth, tAndM_r, trA, tOrM_r, trO, tNotM_r, trN, eAndV_r, trAV, eOrV_r, trOV, eNotV_r, trNV, eIf_r, trIV, eVar_r, slV, slA, eC_r, lNil_r, lCons_r, erC, lrC, eFn_r, lrF, lrF2, conts, eTup_r, lrT, lrT2, vals, eLst_r, lrL, lrL2, sSeq_r, srQ, sExpr_r, erE, sRet_r, erR, sSkip_r, sRetN_r, sIf_r, trI, sStore_r, erS, sSet_r, sOwn_r, sSetX_r, setX, setO, setV_r, avV, storable, eCall_r, lrK, mkK, mkArgs, callR, wb, okRet, okErr, sRaise_r, erX, ePart_none, ePart_some, erP, slI, eSl_r, erSl, slK_r, slK2_r, cutC, oSl, isMut, putMut, setAt, mutD, reD, sItem, itemK, bName, bTup, bAll, fLen, fInt, fList, oIx, oGt, oLt, oGe, oLe, oDiv, oMod, oMul, oAdd, oSub, oPow, o2I, o2C, small, isLst, oNotN, oIsN, Za.isNon, oIn, seqD, flat_int, flats_ints, mst1, mst2, mst3, mst4, or_ite, and_ite, eKid_r, slKd, kdV, flat_str, flat_bl, flat_non, flat_ints, eqv_ints, eqvs_ints, setX, noAl]
  have q : xs.length ≤ most := le_most (by omega)
  refine ⟨b, xs.take place ++ [7000 + (xs.length : Int)] ++ xs.drop place, s6, hb, by simp; omega, hf, ?_⟩
  refine sExpr_eq (eMut_eq (i := 2) (f := uInsert) (s := .own (LL xs)) (d := LL xs) (s' := .own (LL xs)) (d' := LL xs) (d2 := LL (xs.take place ++ [7000 + (xs.length : Int)] ++ xs.drop place)) (r := .non) rfl rfl rfl l rfl rfl rfl rfl ?_)
  unfold uInsert LL
  simp only [List.length_map]
  rw [if_pos ⟨by omega, by omega, q⟩]
  simp
theorem be_item (cs : List Int) {m : EM} {w : Int} (hm : ∀ (b f : D) (xs : List Int) (k : D) (way : Int) (place : Nat) (s6 : Za.Slot), Box cs b → xs.length ≤ 20 → 0 < xs.length → ∃ (b' : D) (x : Int), Box cs b' ∧ m (beS b f xs k way place s6) = .ok (.v (.int x)) (beS b' f xs k way place s6)) :
    BeOk cs (sIf (tAndM (tB (eOp2 oEq (eVar 4) (eC (.int w)))) (tB (eOp2 oLt (eVar 5) (eFn fLen (lCons (eVar 2) lNil))))) (sItem 2 (eVar 5) m) (sSkip)) := by
  refine be_if (fun way p n => decide (way = w) && decide (p < n)) (fun b f xs k way place s6 => by simp [fnM, fin, outsOf, argS, eB_r, eV_r, op2_r, eOp2_r, erO, erO2, erB, erV, opC, retR, cont, frz, mineD, tB_r, erT, trC, tTr_r, erTr, trE, trD, truth, tAndM_r, trA, tOrM_r, trO, tNotM_r, trN, eAndV_r, trAV, eOrV_r, trOV, eNotV_r, trNV, eIf_r, trIV, eVar_r, slV, slA, eC_r, lNil_r, lCons_r, erC, lrC, eFn_r, lrF, lrF2, conts, eTup_r, lrT, lrT2, vals, eLst_r, lrL, lrL2, sSeq_r, srQ, sExpr_r, erE, sRet_r, erR, sSkip_r, sRetN_r, sIf_r, trI, sStore_r, erS, sSet_r, sOwn_r, sSetX_r, setX, setO, setV_r, avV, storable, eCall_r, lrK, mkK, mkArgs, callR, wb, okRet, okErr, sRaise_r, erX, ePart_none, ePart_some, erP, slI, eSl_r, erSl, slK_r, slK2_r, cutC, oSl, isMut, putMut, setAt, mutD, reD, sItem, itemK, bName, bTup, bAll, fLen, fInt, fList, oIx, oGt, oLt, oGe, oLe, oDiv, oMod, oMul, oAdd, oSub, oPow, o2I, o2C, small, isLst, oNotN, oIsN, Za.isNon, oIn, seqD, flat_int, flats_ints, mst1, mst2, mst3, mst4, or_ite, and_ite, eKid_r, slKd, kdV, flat_str, flat_bl, flat_non, flat_ints, eqv_ints, eqvs_ints, setX, noAl, oEq, eqv]) ?_
  intro b f xs k way place s6 hb hl hf hp hc
  simp at hc
  obtain ⟨b', x, hb', e⟩ := hm b f xs k way place s6 hb hl (by omega)
  exact ⟨b', xs.set place x, s6, hb', by simpa using hl, hf, sItem_of (i := 2) (kx := eVar 5) (s2 := beS b' f xs k way place s6) (s := .own (LL xs)) (xs := xs) e rfl rfl rfl rfl hc.2⟩
theorem be2 (cs : List Int) : BeOk cs (sIf (tAndM (tB (eOp2 oEq (eVar 4) (eC (.int 2)))) (tB (eOp2 oLt (eVar 5) (eFn fLen (lCons (eVar 2) lNil))))) (sItem 2 (eVar 5) (eOp2 oSub (eNeg (eC (.int 1))) (eCall F_law_take [true, false] (lCons (eVar 0) (lCons (eC (.int 9999)) (lNil)))))) (sSkip)) := by
  refine be_item cs fun b f xs k way place s6 hb hl h0 => ?_
  obtain ⟨v, b1, hb1, v0, v1, t1⟩ := takeC (n := 9999) (m := eC (.int 9999)) (rest := [.val f, .own (LL xs), .val k, .val (.int way), .val (.int place), s6, .emp]) hb rfl (by omega)
  exact ⟨b1, -1 - v, hb1, eOp2_of (f := oSub) (r := .val (.int (-1 - v))) (x := .int (-1)) (s1 := beS b f xs k way place s6) rfl t1 rfl⟩
theorem be3 (cs : List Int) : BeOk cs (sIf (tAndM (tB (eOp2 oEq (eVar 4) (eC (.int 3)))) (tB (eOp2 oLt (eVar 5) (eFn fLen (lCons (eVar 2) lNil))))) (sItem 2 (eVar 5) (eOp2 oAdd (eC (.int 10000)) (eCall F_law_take [true, false] (lCons (eVar 0) (lCons (eC (.int 90000)) (lNil)))))) (sSkip)) := by
  refine be_item cs fun b f xs k way place s6 hb hl h0 => ?_
  obtain ⟨v, b1, hb1, v0, v1, t1⟩ := takeC (n := 90000) (m := eC (.int 90000)) (rest := [.val f, .own (LL xs), .val k, .val (.int way), .val (.int place), s6, .emp]) hb rfl (by omega)
  exact ⟨b1, 10000 + v, hb1, eOp2_of (f := oAdd) (r := .val (.int (10000 + v))) (s1 := beS b f xs k way place s6) rfl t1 rfl⟩
theorem be4 (cs : List Int) : BeOk cs (sIf (tAndM (tB (eOp2 oEq (eVar 4) (eC (.int 4)))) (tB (eOp2 oLt (eVar 5) (eFn fLen (lCons (eVar 2) lNil))))) (sItem 2 (eVar 5) (eOp2 oIx (eLst (lCons (eC (.int 0)) (lCons (eC (.int 9999)) (lCons (eC (.int 10000)) (lCons (eNeg (eC (.int 1))) (lNil)))))) (eCall F_law_take [true, false] (lCons (eVar 0) (lCons (eC (.int 4)) (lNil)))))) (sSkip)) := by
  refine be_item cs fun b f xs k way place s6 hb hl h0 => ?_
  obtain ⟨v, b1, hb1, v0, v1, t1⟩ := takeC (n := 4) (m := eC (.int 4)) (rest := [.val f, .own (LL xs), .val k, .val (.int way), .val (.int place), s6, .emp]) hb rfl (by omega)
  obtain ⟨j, rfl⟩ := Int.eq_ofNat_of_zero_le v0
  have hx := at_int [0, 9999, 10000, -1] j (by simp; omega)
  have e1 : (eLst (lCons (eC (.int 0)) (lCons (eC (.int 9999)) (lCons (eC (.int 10000)) (lCons (eNeg (eC (.int 1))) (lNil)))))) (beS b f xs k way place s6) = .ok (.n (LL [0, 9999, 10000, -1])) (beS b f xs k way place s6) := by
    simp [fnM, fin, outsOf, argS, eB_r, eV_r, op2_r, eOp2_r, erO, erO2, erB, erV, opC, retR, cont, frz, mineD, tB_r, erT, trC, tTr_r, erTr, trE, trD, truth, tAndM_r, trA, tOrM_r, trO, tNotM_r, trN, eAndV_r, trAV, eOrV_r, trOV, eNotV_r, trNV, eIf_r, trIV, eVar_r, slV, slA, eC_r, lNil_r, lCons_r, erC, lrC, eFn_r, lrF, lrF2, conts, eTup_r, lrT, lrT2, vals, eLst_r, lrL, lrL2, sSeq_r, srQ, sExpr_r, erE, sRet_r, erR, sSkip_r, sRetN_r, sIf_r, trI, sStore_r, erS, sSet_r, sOwn_r, sSetX_r, setX, setO, setV_r, avV, storable, eCall_r, lrK, mkK, mkArgs, callR, wb, okRet, okErr, sRaise_r, erX, ePart_none, ePart_some, erP, slI, eSl_r, erSl, slK_r, slK2_r, cutC, oSl, isMut, putMut, setAt, mutD, reD, sItem, itemK, bName, bTup, bAll, fLen, fInt, fList, oIx, oGt, oLt, oGe, oLe, oDiv, oMod, oMul, oAdd, oSub, oPow, o2I, o2C, small, isLst, oNotN, oIsN, Za.isNon, oIn, seqD, flat_int, flats_ints, mst1, mst2, mst3, mst4, or_ite, and_ite, eKid_r, slKd, kdV, flat_str, flat_bl, flat_non, flat_ints, eqv_ints, eqvs_ints, setX, noAl, eNeg, dNeg]
  refine ⟨b1, [0, 9999, 10000, -1][j]'(by simp; omega), hb1, ?_⟩
  rw [eOp2_r, e1]
  unfold erO
  simp only []
  rw [t1]
  unfold erO2 opC
  simp only [frz, cont, oIx, hx, Option.map_some]
  rfl
theorem be5 (cs : List Int) : BeOk cs (sIf (tAndM (tB (eOp2 oEq (eVar 4) (eC (.int 5)))) (tB (eOp2 oLt (eVar 5) (eFn fLen (lCons (eVar 2) lNil))))) (sItem 2 (eVar 5) (eOp2 oIx (eVar 2) (eCall F_law_take [true, false] (lCons (eVar 0) (lCons (eFn fLen (lCons (eVar 2) lNil)) (lNil)))))) (sSkip)) := by
  refine be_item cs fun b f xs k way place s6 hb hl h0 => ?_
  obtain ⟨v, b1, hb1, v0, v1, t1⟩ := takeC (n := (xs.length : Int)) (m := eFn fLen (lCons (eVar 2) lNil)) (rest := [.val f, .own (LL xs), .val k, .val (.int way), .val (.int place), s6, .emp]) hb (by simp [fnM, fin, outsOf, argS, eB_r, eV_r, op2_r, eOp2_r, erO, erO2, erB, erV, opC, retR, cont, frz, mineD, tB_r, erT, trC, tTr_r, erTr, trE, trD, truth, tAndM_r, trA, tOrM_r, trO, tNotM_r, trN, eAndV_r, trAV, eOrV_r, trOV, eNotV_r, trNV, eIf_r, trIV, eVar_r, slV, slA, eC_r, lNil_r, lCons_r, erC, lrC, eFn_r, lrF, lrF2, conts, eTup_r, lrT, lrT2, vals, eLst_r, lrL, lrL2, sSeq_r, srQ, sExpr_r, erE, sRet_r, erR, sSkip_r, sRetN_r, sIf_r, trI, sStore_r, erS, sSet_r, sOwn_r, sSetX_r, setX, setO, setV_r, avV, storable, eCall_r, lrK, mkK, mkArgs, callR, wb, okRet, okErr, sRaise_r, erX, ePart_none, ePart_some, erP, slI, eSl_r, erSl, slK_r, slK2_r, cutC, oSl, isMut, putMut, setAt, mutD, reD, sItem, itemK, bName, bTup, bAll, fLen, fInt, fList, oIx, oGt, oLt, oGe, oLe, oDiv, oMod, oMul, oAdd, oSub, oPow, o2I, o2C, small, isLst, oNotN, oIsN, Za.isNon, oIn, seqD, flat_int, flats_ints, mst1, mst2, mst3, mst4, or_ite, and_ite, eKid_r, slKd, kdV, flat_str, flat_bl, flat_non, flat_ints, eqv_ints, eqvs_ints, setX, noAl]) (by omega)
  obtain ⟨j, rfl⟩ := Int.eq_ofNat_of_zero_le v0
  have hx := at_int xs j (by omega)
  have e1 : eVar 2 (beS b f xs k way place s6) = .ok (.s 2) (beS b f xs k way place s6) := rfl
  refine ⟨b1, xs[j]'(by omega), hb1, ?_⟩
  rw [eOp2_r, e1]
  unfold erO
  simp only []
  rw [t1]
  unfold erO2 opC
  simp [frz, cont, mineD, oIx, hx, retR]
theorem be6 (cs : List Int) : BeOk cs (sIf (tAndM (tB (eOp2 oEq (eVar 4) (eC (.int 6)))) (tB (eOp2 oLt (eVar 5) (eFn fLen (lCons (eVar 2) lNil))))) (sExpr (eMut 2 uPopAt (lCons (eVar 5) (lNil)))) (sSkip)) := by
  refine be_if (fun way p n => decide (way = 6) && decide (p < n)) (fun b f xs k way place s6 => by simp [fnM, fin, outsOf, argS, eB_r, eV_r, op2_r, eOp2_r, erO, erO2, erB, erV, opC, retR, cont, frz, mineD, tB_r, erT, trC, tTr_r, erTr, trE, trD, truth, tAndM_r, trA, tOrM_r, trO, tNotM_r, trN, eAndV_r, trAV, eOrV_r, trOV, eNotV_r, trNV, eIf_r, trIV, eVar_r, slV, slA, eC_r, lNil_r, lCons_r, erC, lrC, eFn_r, lrF, lrF2, conts, eTup_r, lrT, lrT2, vals, eLst_r, lrL, lrL2, sSeq_r, srQ, sExpr_r, erE, sRet_r, erR, sSkip_r, sRetN_r, sIf_r, trI, sStore_r, erS, sSet_r, sOwn_r, sSetX_r, setX, setO, setV_r, avV, storable, eCall_r, lrK, mkK, mkArgs, callR, wb, okRet, okErr, sRaise_r, erX, ePart_none, ePart_some, erP, slI, eSl_r, erSl, slK_r, slK2_r, cutC, oSl, isMut, putMut, setAt, mutD, reD, sItem, itemK, bName, bTup, bAll, fLen, fInt, fList, oIx, oGt, oLt, oGe, oLe, oDiv, oMod, oMul, oAdd, oSub, oPow, o2I, o2C, small, isLst, oNotN, oIsN, Za.isNon, oIn, seqD, flat_int, flats_ints, mst1, mst2, mst3, mst4, or_ite, and_ite, eKid_r, slKd, kdV, flat_str, flat_bl, flat_non, flat_ints, eqv_ints, eqvs_ints, setX, noAl, oEq, eqv]) ?_
  intro b f xs k way place s6 hb hl hf hp hc
  simp at hc
  refine ⟨b, xs.eraseIdx place, s6, hb, by have := List.length_eraseIdx_le xs place; omega, hf, ?_⟩
  exact sExpr_eq (eMut_eq (i := 2) (f := uPopAt) (s := .own (LL xs)) (d := LL xs) (s' := .own (LL xs)) (d' := LL xs) (d2 := LL (xs.eraseIdx place)) (r := .int (xs[place]'hc.2)) (sl' := beS b f xs k way place s6) (as := [.v (.int (place : Int))]) rfl rfl rfl (by simp [fnM, fin, outsOf, argS, eB_r, eV_r, op2_r, eOp2_r, erO, erO2, erB, erV, opC, retR, cont, frz, mineD, tB_r, erT, trC, tTr_r, erTr, trE, trD, truth, tAndM_r, trA, tOrM_r, trO, tNotM_r, trN, eAndV_r, trAV, eOrV_r, trOV, eNotV_r, trNV, eIf_r, trIV, eVar_r, slV, slA, eC_r, lNil_r, lCons_r, erC, lrC, eFn_r, lrF, lrF2, conts, eTup_r, lrT, lrT2, vals, eLst_r, lrL, lrL2, sSeq_r, srQ, sExpr_r, erE, sRet_r, erR, sSkip_r, sRetN_r, sIf_r, trI, sStore_r, erS, sSet_r, sOwn_r, sSetX_r, setX, setO, setV_r, avV, storable, eCall_r, lrK, mkK, mkArgs, callR, wb, okRet, okErr, sRaise_r, erX, ePart_none, ePart_some, erP, slI, eSl_r, erSl, slK_r, slK2_r, cutC, oSl, isMut, putMut, setAt, mutD, reD, sItem, itemK, bName, bTup, bAll, fLen, fInt, fList, oIx, oGt, oLt, oGe, oLe, oDiv, oMod, oMul, oAdd, oSub, oPow, o2I, o2C, small, isLst, oNotN, oIsN, Za.isNon, oIn, seqD, flat_int, flats_ints, mst1, mst2, mst3, mst4, or_ite, and_ite, eKid_r, slKd, kdV, flat_str, flat_bl, flat_non, flat_ints, eqv_ints, eqvs_ints, setX, noAl]) rfl rfl rfl rfl (popAt_eq xs place hc.2 (by omega)))
theorem be1 (cs : List Int) : BeOk cs (sIf (tAndM (tB (eOp2 oEq (eVar 4) (eC (.int 1)))) (tB (eOp2 oLe (eFn fLen (lCons (eVar 2) lNil)) (eC (.int 12))))) (sSeq (sSet 6 (eOp2 oAdd (eOp2 oSub (eC (.int 13)) (eFn fLen (lCons (eVar 2) lNil))) (eCall F_law_take [true, false] (lCons (eVar 0) (lCons (eC (.int 3)) (lNil))))))
    (sOwn 2 (eOp2 oAdd (eVar 2) (eLc (iRng (lCons (eVar 6) lNil)) [7] (bName 7) (tYesM) (eOp2 oAdd (eC (.int 8000)) (eVar 7)))))) (sSkip)) := by
  refine be_if (fun way _ n => decide (way = 1) && decide ((n : Int) ≤ 12)) (fun b f xs k way place s6 => by simp [fnM, fin, outsOf, argS, eB_r, eV_r, op2_r, eOp2_r, erO, erO2, erB, erV, opC, retR, cont, frz, mineD, tB_r, erT, trC, tTr_r, erTr, trE, trD, truth, tAndM_r, trA, tOrM_r, trO, tNotM_r, trN, eAndV_r, trAV, eOrV_r, trOV, eNotV_r, trNV, eIf_r, trIV, eVar_r, slV, slA, eC_r, lNil_r, lCons_r, erC, lrC, eFn_r, lrF, lrF2, conts, eTup_r, lrT, lrT2, vals, eLst_r, lrL, lrL2, sSeq_r, srQ, sExpr_r, erE, sRet_r, erR, sSkip_r, sRetN_r, sIf_r, trI, sStore_r, erS, sSet_r, sOwn_r, sSetX_r, setX, setO, setV_r, avV, storable, eCall_r, lrK, mkK, mkArgs, callR, wb, okRet, okErr, sRaise_r, erX, ePart_none, ePart_some, erP, slI, eSl_r, erSl, slK_r, slK2_r, cutC, oSl, isMut, putMut, setAt, mutD, reD, sItem, itemK, bName, bTup, bAll, fLen, fInt, fList, oIx, oGt, oLt, oGe, oLe, oDiv, oMod, oMul, oAdd, oSub, oPow, o2I, o2C, small, isLst, oNotN, oIsN, Za.isNon, oIn, seqD, flat_int, flats_ints, mst1, mst2, mst3, mst4, or_ite, and_ite, eKid_r, slKd, kdV, flat_str, flat_bl, flat_non, flat_ints, eqv_ints, eqvs_ints, setX, noAl, oEq, eqv]) ?_
  intro b f xs k way place s6 hb hl hf hp hc
  simp at hc
  obtain ⟨v, b1, hb1, v0, v1, t1⟩ := takeC (n := 3) (m := eC (.int 3)) (rest := [.val f, .own (LL xs), .val k, .val (.int way), .val (.int place), s6, .emp]) hb rfl (by omega)
  have e0 : (eOp2 oSub (eC (.int 13)) (eFn fLen (lCons (eVar 2) lNil))) (beS b f xs k way place s6) = .ok (.v (.int (13 - (xs.length : Int)))) (beS b f xs k way place s6) := by simp [fnM, fin, outsOf, argS, eB_r, eV_r, op2_r, eOp2_r, erO, erO2, erB, erV, opC, retR, cont, frz, mineD, tB_r, erT, trC, tTr_r, erTr, trE, trD, truth, tAndM_r, trA, tOrM_r, trO, tNotM_r, trN, eAndV_r, trAV, eOrV_r, trOV, eNotV_r, trNV, eIf_r, trIV, eVar_r, slV, slA, eC_r, lNil_r, lCons_r, erC, lrC, eFn_r, lrF, lrF2, conts, eTup_r, lrT, lrT2, vals, eLst_r, lrL, lrL2, sSeq_r, srQ, sExpr_r, erE, sRet_r, erR, sSkip_r, sRetN_r, sIf_r, trI, sStore_r, erS, sSet_r, sOwn_r, sSetX_r, setX, setO, setV_r, avV, storable, eCall_r, lrK, mkK, mkArgs, callR, wb, okRet, okErr, sRaise_r, erX, ePart_none, ePart_some, erP, slI, eSl_r, erSl, slK_r, slK2_r, cutC, oSl, isMut, putMut, setAt, mutD, reD, sItem, itemK, bName, bTup, bAll, fLen, fInt, fList, oIx, oGt, oLt, oGe, oLe, oDiv, oMod, oMul, oAdd, oSub, oPow, o2I, o2C, small, isLst, oNotN, oIsN, Za.isNon, oIn, seqD, flat_int, flats_ints, mst1, mst2, mst3, mst4, or_ite, and_ite, eKid_r, slKd, kdV, flat_str, flat_bl, flat_non, flat_ints, eqv_ints, eqvs_ints, setX, noAl]
  have e1 := sSet_of (i := 6) (eOp2_of (f := oAdd) (r := .val (.int (13 - (xs.length : Int) + v))) e0 t1 rfl) rfl (by rcases hf with rfl | ⟨d, rfl⟩ <;> rfl)
  obtain ⟨n, hn⟩ := Int.eq_ofNat_of_zero_le (show (0 : Int) ≤ 13 - (xs.length : Int) + v by omega)
  rw [hn] at e1
  have e2 : eLc (iRng (lCons (eVar 6) lNil)) [7] (bName 7) (tYesM) (eOp2 oAdd (eC (.int 8000)) (eVar 7)) (beS b1 f xs k way place (.val (.int (n : Int)))) = .ok (.n (.lst (((List.range n).filter fun _ => true).map fun i : Nat => D.int (8000 + (i : Int))))) (beS b1 f xs k way place (.val (.int (n : Int)))) := by
    refine eLc_eq (fun i : Nat => D.int (i : Int)) (fun i => [.io b1, .val f, .own (LL xs), .val k, .val (.int way), .val (.int place), .val (.int (n : Int)), .val (.int (i : Int))]) _ _ (List.range n) ?_ rfl (fun i hi => ⟨rfl, rfl, fun _ => ⟨.v (.int (8000 + (i : Int))), by simp [fnM, fin, outsOf, argS, eB_r, eV_r, op2_r, eOp2_r, erO, erO2, erB, erV, opC, retR, cont, frz, mineD, tB_r, erT, trC, tTr_r, erTr, trE, trD, truth, tAndM_r, trA, tOrM_r, trO, tNotM_r, trN, eAndV_r, trAV, eOrV_r, trOV, eNotV_r, trNV, eIf_r, trIV, eVar_r, slV, slA, eC_r, lNil_r, lCons_r, erC, lrC, eFn_r, lrF, lrF2, conts, eTup_r, lrT, lrT2, vals, eLst_r, lrL, lrL2, sSeq_r, srQ, sExpr_r, erE, sRet_r, erR, sSkip_r, sRetN_r, sIf_r, trI, sStore_r, erS, sSet_r, sOwn_r, sSetX_r, setX, setO, setV_r, avV, storable, eCall_r, lrK, mkK, mkArgs, callR, wb, okRet, okErr, sRaise_r, erX, ePart_none, ePart_some, erP, slI, eSl_r, erSl, slK_r, slK2_r, cutC, oSl, isMut, putMut, setAt, mutD, reD, sItem, itemK, bName, bTup, bAll, fLen, fInt, fList, oIx, oGt, oLt, oGe, oLe, oDiv, oMod, oMul, oAdd, oSub, oPow, o2I, o2C, small, isLst, oNotN, oIsN, Za.isNon, oIn, seqD, flat_int, flats_ints, mst1, mst2, mst3, mst4, or_ite, and_ite, eKid_r, slKd, kdV, flat_str, flat_bl, flat_non, flat_ints, eqv_ints, eqvs_ints, setX, noAl], rfl⟩, rfl⟩) (by simp; omega)
    rw [← rngD_map]
    exact rng1 (l := lCons (eVar 6) lNil) (sl := beS b1 f xs k way place (.val (.int (n : Int)))) (sl' := beS b1 f xs k way place (.val (.int (n : Int)))) (n := n) (by simp [fnM, fin, outsOf, argS, eB_r, eV_r, op2_r, eOp2_r, erO, erO2, erB, erV, opC, retR, cont, frz, mineD, tB_r, erT, trC, tTr_r, erTr, trE, trD, truth, tAndM_r, trA, tOrM_r, trO, tNotM_r, trN, eAndV_r, trAV, eOrV_r, trOV, eNotV_r, trNV, eIf_r, trIV, eVar_r, slV, slA, eC_r, lNil_r, lCons_r, erC, lrC, eFn_r, lrF, lrF2, conts, eTup_r, lrT, lrT2, vals, eLst_r, lrL, lrL2, sSeq_r, srQ, sExpr_r, erE, sRet_r, erR, sSkip_r, sRetN_r, sIf_r, trI, sStore_r, erS, sSet_r, sOwn_r, sSetX_r, setX, setO, setV_r, avV, storable, eCall_r, lrK, mkK, mkArgs, callR, wb, okRet, okErr, sRaise_r, erX, ePart_none, ePart_some, erP, slI, eSl_r, erSl, slK_r, slK2_r, cutC, oSl, isMut, putMut, setAt, mutD, reD, sItem, itemK, bName, bTup, bAll, fLen, fInt, fList, oIx, oGt, oLt, oGe, oLe, oDiv, oMod, oMul, oAdd, oSub, oPow, o2I, o2C, small, isLst, oNotN, oIsN, Za.isNon, oIn, seqD, flat_int, flats_ints, mst1, mst2, mst3, mst4, or_ite, and_ite, eKid_r, slKd, kdV, flat_str, flat_bl, flat_non, flat_ints, eqv_ints, eqvs_ints, setX, noAl]) (by omega)
  rw [filter_tt] at e2
  have e3 : ((List.range n).map fun i : Nat => D.int (8000 + (i : Int))) = ((List.range n).map fun i : Nat => 8000 + (i : Int)).map D.int := by rw [List.map_map]; rfl
  rw [e3] at e2
  have q : xs.length + n ≤ most := le_most (by omega)
  have e4 : (eOp2 oAdd (eVar 2) (eLc (iRng (lCons (eVar 6) lNil)) [7] (bName 7) (tYesM) (eOp2 oAdd (eC (.int 8000)) (eVar 7)))) (beS b1 f xs k way place (.val (.int (n : Int)))) = .ok (.n (LL (xs ++ (List.range n).map fun i : Nat => 8000 + (i : Int)))) (beS b1 f xs k way place (.val (.int (n : Int)))) := by
    have e0 : eVar 2 (beS b1 f xs k way place (.val (.int (n : Int)))) = .ok (.s 2) (beS b1 f xs k way place (.val (.int (n : Int)))) := rfl
    rw [eOp2_r, e0]
    unfold erO
    simp only []
    rw [e2]
    unfold erO2 opC
    generalize hz : ((List.range n).map fun i : Nat => 8000 + (i : Int)) = z at *
    have lz : z.length = n := by rw [← hz]; simp
    simp [frz, cont, mineD, oAdd, lz, q, retR]
  refine ⟨b1, xs ++ (List.range n).map fun i : Nat => 8000 + (i : Int), .val (.int (n : Int)), hb1, by simp; omega, .inr ⟨_, rfl⟩, ?_⟩
  refine (sSeq_nx e1).trans ?_
  exact sOwn_of (i := 2) e4 rfl
def beB : SM := (sSeq (sSet 4 (eCall F_law_take [true, false] (lCons (eVar 0) (lCons (eC (.int 7)) (lNil)))))
    (sSeq (sSet 5 (eCall F_law_take [true, false] (lCons (eVar 0) (lCons (eOp2 oAdd (eFn fLen (lCons (eVar 2) lNil)) (eC (.int 1))) (lNil)))))
    (sSeq (sIf (tAndM (tB (eOp2 oEq (eVar 4) (eC (.int 0)))) (tB (eOp2 oLt (eFn fLen (lCons (eVar 2) lNil)) (eC (.int 16))))) (sExpr (eMut 2 uInsert (lCons (eVar 5) (lCons (eOp2 oAdd (eC (.int 7000)) (eFn fLen (lCons (eVar 2) lNil))) (lNil))))) (sSkip))
    (sSeq (sIf (tAndM (tB (eOp2 oEq (eVar 4) (eC (.int 1)))) (tB (eOp2 oLe (eFn fLen (lCons (eVar 2) lNil)) (eC (.int 12))))) (sSeq (sSet 6 (eOp2 oAdd (eOp2 oSub (eC (.int 13)) (eFn fLen (lCons (eVar 2) lNil))) (eCall F_law_take [true, false] (lCons (eVar 0) (lCons (eC (.int 3)) (lNil))))))
    (sOwn 2 (eOp2 oAdd (eVar 2) (eLc (iRng (lCons (eVar 6) lNil)) [7] (bName 7) (tYesM) (eOp2 oAdd (eC (.int 8000)) (eVar 7)))))) (sSkip))
    (sSeq (sIf (tAndM (tB (eOp2 oEq (eVar 4) (eC (.int 2)))) (tB (eOp2 oLt (eVar 5) (eFn fLen (lCons (eVar 2) lNil))))) (sItem 2 (eVar 5) (eOp2 oSub (eNeg (eC (.int 1))) (eCall F_law_take [true, false] (lCons (eVar 0) (lCons (eC (.int 9999)) (lNil)))))) (sSkip))
    (sSeq (sIf (tAndM (tB (eOp2 oEq (eVar 4) (eC (.int 3)))) (tB (eOp2 oLt (eVar 5) (eFn fLen (lCons (eVar 2) lNil))))) (sItem 2 (eVar 5) (eOp2 oAdd (eC (.int 10000)) (eCall F_law_take [true, false] (lCons (eVar 0) (lCons (eC (.int 90000)) (lNil)))))) (sSkip))
    (sSeq (sIf (tAndM (tB (eOp2 oEq (eVar 4) (eC (.int 4)))) (tB (eOp2 oLt (eVar 5) (eFn fLen (lCons (eVar 2) lNil))))) (sItem 2 (eVar 5) (eOp2 oIx (eLst (lCons (eC (.int 0)) (lCons (eC (.int 9999)) (lCons (eC (.int 10000)) (lCons (eNeg (eC (.int 1))) (lNil)))))) (eCall F_law_take [true, false] (lCons (eVar 0) (lCons (eC (.int 4)) (lNil)))))) (sSkip))
    (sSeq (sIf (tAndM (tB (eOp2 oEq (eVar 4) (eC (.int 5)))) (tB (eOp2 oLt (eVar 5) (eFn fLen (lCons (eVar 2) lNil))))) (sItem 2 (eVar 5) (eOp2 oIx (eVar 2) (eCall F_law_take [true, false] (lCons (eVar 0) (lCons (eFn fLen (lCons (eVar 2) lNil)) (lNil)))))) (sSkip))
    (sIf (tAndM (tB (eOp2 oEq (eVar 4) (eC (.int 6)))) (tB (eOp2 oLt (eVar 5) (eFn fLen (lCons (eVar 2) lNil))))) (sExpr (eMut 2 uPopAt (lCons (eVar 5) (lNil)))) (sSkip))))))))))
theorem beB_eq {cs : List Int} {b : D} (f k : D) (xs : List Int) (s4 s5 s6 : Za.Slot) (hb : Box cs b) (hl : xs.length ≤ 20) (f4 : free s4) (f5 : free s5) (f6 : free s6) :
    ∃ (b' : D) (ys : List Int) (t4 t5 t6 : Za.Slot), Box cs b' ∧ ys.length ≤ 20 ∧ free t4 ∧ free t5 ∧ free t6 ∧ beB [.io b, .val f, .own (LL xs), .val k, s4, s5, s6, .emp] = .nx [.io b', .val f, .own (LL ys), .val k, t4, t5, t6, .emp] := by
  obtain ⟨v, b1, hb1, v0, v1, t1⟩ := takeC (n := 7) (m := eC (.int 7)) (rest := [.val f, .own (LL xs), .val k, s4, s5, s6, .emp]) hb rfl (by omega)
  have e1 := sSet_of (i := 4) t1 rfl (by rcases f4 with rfl | ⟨d, rfl⟩ <;> rfl)
  obtain ⟨p, b2, hb2, p0, p1, t2⟩ := takeC (n := (xs.length : Int) + 1) (m := eOp2 oAdd (eFn fLen (lCons (eVar 2) lNil)) (eC (.int 1))) (rest := [.val f, .own (LL xs), .val k, .val (.int v), s5, s6, .emp]) hb1 (by simp [fnM, fin, outsOf, argS, eB_r, eV_r, op2_r, eOp2_r, erO, erO2, erB, erV, opC, retR, cont, frz, mineD, tB_r, erT, trC, tTr_r, erTr, trE, trD, truth, tAndM_r, trA, tOrM_r, trO, tNotM_r, trN, eAndV_r, trAV, eOrV_r, trOV, eNotV_r, trNV, eIf_r, trIV, eVar_r, slV, slA, eC_r, lNil_r, lCons_r, erC, lrC, eFn_r, lrF, lrF2, conts, eTup_r, lrT, lrT2, vals, eLst_r, lrL, lrL2, sSeq_r, srQ, sExpr_r, erE, sRet_r, erR, sSkip_r, sRetN_r, sIf_r, trI, sStore_r, erS, sSet_r, sOwn_r, sSetX_r, setX, setO, setV_r, avV, storable, eCall_r, lrK, mkK, mkArgs, callR, wb, okRet, okErr, sRaise_r, erX, ePart_none, ePart_some, erP, slI, eSl_r, erSl, slK_r, slK2_r, cutC, oSl, isMut, putMut, setAt, mutD, reD, sItem, itemK, bName, bTup, bAll, fLen, fInt, fList, oIx, oGt, oLt, oGe, oLe, oDiv, oMod, oMul, oAdd, oSub, oPow, o2I, o2C, small, isLst, oNotN, oIsN, Za.isNon, oIn, seqD, flat_int, flats_ints, mst1, mst2, mst3, mst4, or_ite, and_ite, eKid_r, slKd, kdV, flat_str, flat_bl, flat_non, flat_ints, eqv_ints, eqvs_ints, setX, noAl]) (by omega)
  have e2 := sSet_of (i := 5) t2 rfl (by rcases f5 with rfl | ⟨d, rfl⟩ <;> rfl)
  obtain ⟨j, rfl⟩ := Int.eq_ofNat_of_zero_le p0
  obtain ⟨b3, ys, t6, hb3, l3, g6, e3⟩ := (be_seq (be0 cs) (be_seq (be1 cs) (be_seq (be2 cs) (be_seq (be3 cs) (be_seq (be4 cs) (be_seq (be5 cs) (be6 cs))))))) b2 f xs k v j s6 hb2 hl f6 (by omega)
  refine ⟨b3, ys, .val (.int v), .val (.int (j : Int)), t6, hb3, l3, .inr ⟨_, rfl⟩, .inr ⟨_, rfl⟩, g6, ?_⟩
  unfold beB
  refine (sSeq_nx e1).trans ?_
  refine (sSeq_nx e2).trans ?_
  exact e3
theorem be_loop {cs : List Int} (f : D) : ∀ (ds : List D) (b : D) (xs : List Int) (s3 s4 s5 s6 : Za.Slot), Box cs b → xs.length ≤ 20 → free s3 → free s4 → free s5 → free s6 →
    ∃ (b' : D) (ys : List Int) (t3 t4 t5 t6 : Za.Slot), Box cs b' ∧ ys.length ≤ 20 ∧ forL (fun _ => true) (bName 3) beB ds [.io b, .val f, .own (LL xs), s3, s4, s5, s6, .emp] = .nx [.io b', .val f, .own (LL ys), t3, t4, t5, t6, .emp] := by
  intro ds
  induction ds with
  | nil => intro b xs s3 s4 s5 s6 hb hl _ _ _ _; exact ⟨b, xs, s3, s4, s5, s6, hb, hl, rfl⟩
  | cons d ds ih =>
    intro b xs s3 s4 s5 s6 hb hl f3 f4 f5 f6
    have hbd : bName 3 d [.io b, .val f, .own (LL xs), s3, s4, s5, s6, .emp] = some [.io b, .val f, .own (LL xs), .val d, s4, s5, s6, .emp] := by
      rcases f3 with rfl | ⟨d', rfl⟩ <;> simp [bName, storable]
    obtain ⟨b1, y1, u4, u5, u6, hb1, l1, g4, g5, g6, e1⟩ := beB_eq f d xs s4 s5 s6 hb hl f4 f5 f6
    obtain ⟨b2, y2, t3, t4, t5, t6, hb2, l2, e2⟩ := ih b1 y1 (.val d) u4 u5 u6 hb1 l1 (.inr ⟨d, rfl⟩) g4 g5 g6
    exact ⟨b2, y2, t3, t4, t5, t6, hb2, l2, (forL_cons _ _ _ _ _ hbd e1 rfl).trans e2⟩
theorem bent_eq {cs : List Int} {b : D} (xs : List Int) (hb : Box cs b) (hl : xs.length ≤ 20) : ∃ (b' : D) (ys : List Int), Box cs b' ∧ ys.length ≤ 20 ∧ F_law_bent [.io b, .v (LL xs)] = .ok (LL ys) true [b'] := by
  obtain ⟨v, b1, hb1, v0, v1, t1⟩ := takeC (n := 4) (m := eC (.int 4)) (rest := [.val (LL xs), .own (LL xs), .emp, .emp, .emp, .emp, .emp]) hb rfl (by omega)
  obtain ⟨b2, ys, t3, t4, t5, t6, hb2, l2, e2⟩ := be_loop (LL xs) (rngD 0 v.toNat) b1 xs .emp .emp .emp .emp hb1 hl (.inl rfl) (.inl rfl) (.inl rfl) (.inl rfl)
  refine ⟨b2, ys, hb2, l2, ?_⟩
  have hm : m_law_bent = sSeq (sOwn 2 (eFn fList (lCons (eVar 1) lNil))) (sSeq (sFor (iRng (lCons (eCall F_law_take [true, false] (lCons (eVar 0) (lCons (eC (.int 4)) (lNil)))) lNil)) (bName 3) beB) (sRet (eVar 2))) := rfl
  have s0 : (sOwn 2 (eFn fList (lCons (eVar 1) lNil))) [.io b, .val (LL xs), .emp, .emp, .emp, .emp, .emp, .emp] = .nx [.io b, .val (LL xs), .own (LL xs), .emp, .emp, .emp, .emp, .emp] := by simp [fnM, fin, outsOf, argS, eB_r, eV_r, op2_r, eOp2_r, erO, erO2, erB, erV, opC, retR, cont, frz, mineD, tB_r, erT, trC, tTr_r, erTr, trE, trD, truth, tAndM_r, trA, tOrM_r, trO, tNotM_r, trN, eAndV_r, trAV, eOrV_r, trOV, eNotV_r, trNV, eIf_r, trIV, eVar_r, slV, slA, eC_r, lNil_r, lCons_r, erC, lrC, eFn_r, lrF, lrF2, conts, eTup_r, lrT, lrT2, vals, eLst_r, lrL, lrL2, sSeq_r, srQ, sExpr_r, erE, sRet_r, erR, sSkip_r, sRetN_r, sIf_r, trI, sStore_r, erS, sSet_r, sOwn_r, sSetX_r, setX, setO, setV_r, avV, storable, eCall_r, lrK, mkK, mkArgs, callR, wb, okRet, okErr, sRaise_r, erX, ePart_none, ePart_some, erP, slI, eSl_r, erSl, slK_r, slK2_r, cutC, oSl, isMut, putMut, setAt, mutD, reD, sItem, itemK, bName, bTup, bAll, fLen, fInt, fList, oIx, oGt, oLt, oGe, oLe, oDiv, oMod, oMul, oAdd, oSub, oPow, o2I, o2C, small, isLst, oNotN, oIsN, Za.isNon, oIn, seqD, flat_int, flats_ints, mst1, mst2, mst3, mst4, or_ite, and_ite, eKid_r, slKd, kdV, flat_str, flat_bl, flat_non, flat_ints, eqv_ints, eqvs_ints, setX, noAl]
  have s1 := (sFor_none (y := bName 3) (z := beB) (rngI (l := lCons (eCall F_law_take [true, false] (lCons (eVar 0) (lCons (eC (.int 4)) (lNil)))) lNil) (lCons1 t1) (by omega))).trans e2
  have hh : m_law_bent [.io b, .val (LL xs), .emp, .emp, .emp, .emp, .emp, .emp] = .ret (.s 2) [.io b2, .val (LL xs), .own (LL ys), t3, t4, t5, t6, .emp] := by
    rw [hm, sSeq_nx s0, sSeq_nx s1]
    rfl
  unfold F_law_bent
  refine (fnM_eq (n := 8) (args := [.io b, .v (LL xs)]) (sl := [.io b, .val (LL xs), .emp, .emp, .emp, .emp, .emp, .emp]) rfl hh).trans ?_
  rfl
end Zk06
end
section
set_option linter.all false
set_option maxRecDepth 10000
namespace Zk06
open PySem PySem.Spec PyProof.Rows L2 Za
theorem boxC {F : FM} {m : EM} {sl s2 : List Za.Slot} {b b2 b' d x : D} {a : AV} (hs : sl[1]? = some (.own b)) (hm : m sl = .ok a s2) (hf : frz a = .v x) (hs2 : s2[1]? = some (.own b2)) (e : F [.io b2, .v x] = .ok d true [b']) :
    eCall F [true, false] (lCons (eVar 1) (lCons m lNil)) sl = .ok (.n d) (s2.set 1 (.own b')) := by
  have h1 : eVar 1 sl = .ok (.s 1) sl := by rw [eVar_r, hs]; rfl
  have l := lCons2 h1 hm
  rw [hf] at l
  rw [eCall_r, l]
  simp [fnM, fin, outsOf, argS, eB_r, eV_r, op2_r, eOp2_r, erO, erO2, erB, erV, opC, retR, cont, frz, mineD, tB_r, erT, trC, tTr_r, erTr, trE, trD, truth, tAndM_r, trA, tOrM_r, trO, tNotM_r, trN, eAndV_r, trAV, eOrV_r, trOV, eNotV_r, trNV, eIf_r, trIV, eVar_r, slV, slA, eC_r, lNil_r, lCons_r, erC, lrC, eFn_r, lrF, lrF2, conts, eTup_r, lrT, lrT2, vals, eLst_r, lrL, lrL2, sSeq_r, srQ, sExpr_r, erE, sRet_r, erR, sSkip_r, sRetN_r, sIf_r, trI, sStore_r, erS, sSet_r, sOwn_r, sSetX_r, setX, setO, setV_r, avV, storable, eCall_r, lrK, mkK, mkArgs, callR, wb, okRet, okErr, sRaise_r, erX, ePart_none, ePart_some, erP, slI, eSl_r, erSl, slK_r, slK2_r, cutC, oSl, isMut, putMut, setAt, mutD, reD, sItem, itemK, bName, bTup, bAll, fLen, fInt, fList, oIx, oGt, oLt, oGe, oLe, oDiv, oMod, oMul, oAdd, oSub, oPow, o2I, o2C, small, isLst, oNotN, oIsN, Za.isNon, oIn, seqD, flat_int, flats_ints, mst1, mst2, mst3, mst4, or_ite, and_ite, eKid_r, slKd, kdV, flat_str, flat_bl, flat_non, flat_ints, eqv_ints, eqvs_ints, setX, noAl, hs2, e]
theorem loop_same {ok : List Za.Slot → Bool} (hok : ∀ s, ok s = true) {y : BM} {z : SM} (S : Za.Slot → List Za.Slot) : ∀ (ds : List D) (s : Za.Slot), free s → (∀ d ∈ ds, (∀ s, free s → y d (S s) = some (S (.val d))) ∧ z (S (.val d)) = .nx (S (.val d))) → ∃ t, free t ∧ forL ok y z ds (S s) = .nx (S t) := by
  intro ds
  induction ds with
  | nil => intro s f _; exact ⟨s, f, rfl⟩
  | cons d ds ih =>
    intro s f h
    obtain ⟨h1, h2⟩ := h d List.mem_cons_self
    obtain ⟨t, g, e⟩ := ih (.val d) (.inr ⟨d, rfl⟩) fun d' hd => h d' (List.mem_cons_of_mem _ hd)
    exact ⟨t, g, (forL_cons _ _ _ _ _ (h1 s f) h2 (hok _)).trans e⟩
theorem law_true (ns : List Int) (h : ns.length ≤ 63) : Flaw [.v (.kst (ns.map D.int))] = .ok (.bl true) false [] := by
  generalize hz : (D.kst (ns.map D.int)) = z
  have bx := box_eq ns h
  rw [hz] at bx
  have hb0 : Box ns (.lst [.lst (ns.map D.int), .int 0, .int 0]) := ⟨0, 0, by omega, by omega, rfl⟩
  generalize (D.lst [.lst (ns.map D.int), .int 0, .int 0]) = b0 at bx hb0
  have s0 : (sOwn 1 (eCall F_law_box [false] (lCons (eVar 0) (lNil)))) [.val z, .emp, .emp, .emp, .emp, .emp, .emp, .emp, .emp, .emp] = .nx [.val z, .own b0, .emp, .emp, .emp, .emp, .emp, .emp, .emp, .emp] := by
    refine sOwn_of (i := 1) (sl1 := [.val z, .emp, .emp, .emp, .emp, .emp, .emp, .emp, .emp, .emp]) ?_ rfl
    rw [eCall_r]
    obtain ⟨X, hX⟩ : ∃ X, X = F_law_box := ⟨_, rfl⟩
    rw [← hX] at bx ⊢
    clear hX
    simp [fnM, fin, outsOf, argS, eB_r, eV_r, op2_r, eOp2_r, erO, erO2, erB, erV, opC, retR, cont, frz, mineD, tB_r, erT, trC, tTr_r, erTr, trE, trD, truth, tAndM_r, trA, tOrM_r, trO, tNotM_r, trN, eAndV_r, trAV, eOrV_r, trOV, eNotV_r, trNV, eIf_r, trIV, eVar_r, slV, slA, eC_r, lNil_r, lCons_r, erC, lrC, eFn_r, lrF, lrF2, conts, eTup_r, lrT, lrT2, vals, eLst_r, lrL, lrL2, sSeq_r, srQ, sExpr_r, erE, sRet_r, erR, sSkip_r, sRetN_r, sIf_r, trI, sStore_r, erS, sSet_r, sOwn_r, sSetX_r, setX, setO, setV_r, avV, storable, eCall_r, lrK, mkK, mkArgs, callR, wb, okRet, okErr, sRaise_r, erX, ePart_none, ePart_some, erP, slI, eSl_r, erSl, slK_r, slK2_r, cutC, oSl, isMut, putMut, setAt, mutD, reD, sItem, itemK, bName, bTup, bAll, fLen, fInt, fList, oIx, oGt, oLt, oGe, oLe, oDiv, oMod, oMul, oAdd, oSub, oPow, o2I, o2C, small, isLst, oNotN, oIsN, Za.isNon, oIn, seqD, flat_int, flats_ints, mst1, mst2, mst3, mst4, or_ite, and_ite, eKid_r, slKd, kdV, flat_str, flat_bl, flat_non, flat_ints, eqv_ints, eqvs_ints, setX, noAl, bx]
  obtain ⟨c1, b1, hb1, c10, c11, t1⟩ := take_call (sl := [.val z, .own b0, .emp, .emp, .emp, .emp, .emp, .emp, .emp, .emp]) (i := 1) (s := .own b0) (m := eC (.int 7)) (n := 7) rfl rfl hb0 rfl (by omega) rfl
  have s1 := sSet_of (i := 2) t1 rfl rfl
  obtain ⟨c2, b2, hb2, c20, c21, t2⟩ := take_call (sl := [.val z, .own b1, .val (.int c1), .emp, .emp, .emp, .emp, .emp, .emp, .emp]) (i := 1) (s := .own b1) (m := eC (.int 4)) (n := 4) rfl rfl hb1 rfl (by omega) rfl
  have s2 : ∃ (c : Int) (b3 : D), Box ns b3 ∧ 0 ≤ c ∧ c ≤ 12 ∧ (sIf (tB (eOp2 oEq (eCall F_law_take [true, false] (lCons (eVar 1) (lCons (eC (.int 4)) (lNil)))) (eC (.int 0)))) (sSet 2 (eCall F_law_take [true, false] (lCons (eVar 1) (lCons (eC (.int 13)) (lNil))))) (sSkip)) [.val z, .own b1, .val (.int c1), .emp, .emp, .emp, .emp, .emp, .emp, .emp] = .nx [.val z, .own b3, .val (.int c), .emp, .emp, .emp, .emp, .emp, .emp, .emp] := by
    have t : (tB (eOp2 oEq (eCall F_law_take [true, false] (lCons (eVar 1) (lCons (eC (.int 4)) (lNil)))) (eC (.int 0)))) [.val z, .own b1, .val (.int c1), .emp, .emp, .emp, .emp, .emp, .emp, .emp] = .ok (c2 == 0) [.val z, .own b2, .val (.int c1), .emp, .emp, .emp, .emp, .emp, .emp, .emp] := by
      rw [tB_r, eOp2_of (f := oEq) (b := eC (.int 0)) (r := .val (.bl (c2 == 0))) t2 (y := .int 0) rfl (by simp [oEq, eqv, flat])]
      simp [fnM, fin, outsOf, argS, eB_r, eV_r, op2_r, eOp2_r, erO, erO2, erB, erV, opC, retR, cont, frz, mineD, tB_r, erT, trC, tTr_r, erTr, trE, trD, truth, tAndM_r, trA, tOrM_r, trO, tNotM_r, trN, eAndV_r, trAV, eOrV_r, trOV, eNotV_r, trNV, eIf_r, trIV, eVar_r, slV, slA, eC_r, lNil_r, lCons_r, erC, lrC, eFn_r, lrF, lrF2, conts, eTup_r, lrT, lrT2, vals, eLst_r, lrL, lrL2, sSeq_r, srQ, sExpr_r, erE, sRet_r, erR, sSkip_r, sRetN_r, sIf_r, trI, sStore_r, erS, sSet_r, sOwn_r, sSetX_r, setX, setO, setV_r, avV, storable, eCall_r, lrK, mkK, mkArgs, callR, wb, okRet, okErr, sRaise_r, erX, ePart_none, ePart_some, erP, slI, eSl_r, erSl, slK_r, slK2_r, cutC, oSl, isMut, putMut, setAt, mutD, reD, sItem, itemK, bName, bTup, bAll, fLen, fInt, fList, oIx, oGt, oLt, oGe, oLe, oDiv, oMod, oMul, oAdd, oSub, oPow, o2I, o2C, small, isLst, oNotN, oIsN, Za.isNon, oIn, seqD, flat_int, flats_ints, mst1, mst2, mst3, mst4, or_ite, and_ite, eKid_r, slKd, kdV, flat_str, flat_bl, flat_non, flat_ints, eqv_ints, eqvs_ints, setX, noAl]
    rw [sIf_r, t]
    unfold trI
    simp only []
    by_cases hc : (c2 == 0) = true
    · rw [if_pos hc]
      obtain ⟨c3, b3, hb3, c30, c31, t3⟩ := take_call (sl := [.val z, .own b2, .val (.int c1), .emp, .emp, .emp, .emp, .emp, .emp, .emp]) (i := 1) (s := .own b2) (m := eC (.int 13)) (n := 13) rfl rfl hb2 rfl (by omega) rfl
      exact ⟨c3, b3, hb3, c30, by omega, sSet_of (i := 2) t3 rfl rfl⟩
    · rw [if_neg hc]
      exact ⟨c1, b2, hb2, c10, by omega, rfl⟩
  obtain ⟨c, b3, hb3, c0, c12, s2⟩ := s2
  obtain ⟨b4, ks, hb4, kl, e4⟩ := keys_eq (c := c) hb3 ⟨c0, c12⟩
  obtain ⟨b5, fs, hb5, fl, e5⟩ := widened_eq ks hb4 (by omega)
  have t4 := boxC (F := F_law_keys) (sl := [.val z, .own b3, .val (.int c), .emp, .emp, .emp, .emp, .emp, .emp, .emp]) (m := eVar 2) (s2 := [.val z, .own b3, .val (.int c), .emp, .emp, .emp, .emp, .emp, .emp, .emp]) rfl rfl rfl rfl e4
  have t5 := boxC (F := F_law_widened) (sl := [.val z, .own b3, .val (.int c), .emp, .emp, .emp, .emp, .emp, .emp, .emp]) rfl t4 rfl rfl e5
  have s3 := sSet_of (i := 3) t5 rfl rfl
  obtain ⟨b6, gs, hb6, gl, e6⟩ := second_eq fs hb5 (by omega)
  have t6 := boxC (F := F_law_second) (sl := [.val z, .own b5, .val (.int c), .val (LL fs), .emp, .emp, .emp, .emp, .emp, .emp]) (m := eVar 3) (s2 := [.val z, .own b5, .val (.int c), .val (LL fs), .emp, .emp, .emp, .emp, .emp, .emp]) rfl rfl rfl rfl e6
  have s4 := sSet_of (i := 4) t6 rfl rfl
  obtain ⟨b7, us, hb7, ul, e7⟩ := bent_eq fs hb6 (by omega)
  have t7 := boxC (F := F_law_bent) (sl := [.val z, .own b6, .val (.int c), .val (LL fs), .val (LL gs), .emp, .emp, .emp, .emp, .emp]) (m := eVar 3) (s2 := [.val z, .own b6, .val (.int c), .val (LL fs), .val (LL gs), .emp, .emp, .emp, .emp, .emp]) rfl rfl rfl rfl e7
  have s5 := sSet_of (i := 5) t7 rfl rfl
  obtain ⟨b8, vs, hb8, vl, e8⟩ := bent_eq gs hb7 (by omega)
  have t8 := boxC (F := F_law_bent) (sl := [.val z, .own b7, .val (.int c), .val (LL fs), .val (LL gs), .val (LL us), .emp, .emp, .emp, .emp]) (m := eVar 4) (s2 := [.val z, .own b7, .val (.int c), .val (LL fs), .val (LL gs), .val (LL us), .emp, .emp, .emp, .emp]) rfl rfl rfl rfl e8
  have s6 := sSet_of (i := 6) t8 rfl rfl
  obtain ⟨c4, b9, hb9, c40, c41, t9⟩ := take_call (sl := [.val z, .own b8, .val (.int c), .val (LL fs), .val (LL gs), .val (LL us), .val (LL vs), .emp, .emp, .emp]) (i := 1) (s := .own b8) (m := eC (.int 40)) (n := 40) rfl rfl hb8 rfl (by omega) rfl
  have s7 := sSet_of (i := 7) (eOp2_of (f := oSub) (b := eC (.int 20)) (r := .val (.int (c4 - 20))) t9 rfl rfl) rfl rfl
  have lf : fs.length ≤ 1000 := by omega
  have lg : gs.length ≤ 1000 := by omega
  have lu : us.length ≤ 1000 := by omega
  have lv : vs.length ≤ 1000 := by omega
  have A := fun (way : Nat) (hw : way < 4) (a b : List Int) (i : Int) (ha : a.length ≤ 1000) (hb : b.length ≤ 1000) => asked_true hw a b i ha hb
  have hm : mlaw = sSeq (sOwn 1 (eCall F_law_box [false] (lCons (eVar 0) (lNil))))
      (sSeq (sSet 2 (eCall F_law_take [true, false] (lCons (eVar 1) (lCons (eC (.int 7)) (lNil)))))
      (sSeq (sIf (tB (eOp2 oEq (eCall F_law_take [true, false] (lCons (eVar 1) (lCons (eC (.int 4)) (lNil)))) (eC (.int 0)))) (sSet 2 (eCall F_law_take [true, false] (lCons (eVar 1) (lCons (eC (.int 13)) (lNil))))) (sSkip))
      (sSeq (sSet 3 (eCall F_law_widened [true, false] (lCons (eVar 1) (lCons (eCall F_law_keys [true, false] (lCons (eVar 1) (lCons (eVar 2) (lNil)))) (lNil)))))
      (sSeq (sSet 4 (eCall F_law_second [true, false] (lCons (eVar 1) (lCons (eVar 3) (lNil)))))
      (sSeq (sSet 5 (eCall F_law_bent [true, false] (lCons (eVar 1) (lCons (eVar 3) (lNil)))))
      (sSeq (sSet 6 (eCall F_law_bent [true, false] (lCons (eVar 1) (lCons (eVar 4) (lNil)))))
      (sSeq (sSet 7 (eOp2 oSub (eCall F_law_take [true, false] (lCons (eVar 1) (lCons (eC (.int 40)) (lNil)))) (eC (.int 20))))
      (sSeq (sFor (iRng (lCons (eC (.int 4)) lNil)) (bName 8) (sSeq (sIf (tOrM (tNotM (tTr (eCall F_law_asked [false, false, false, false] (lCons (eVar 8) (lCons (eVar 3) (lCons (eVar 4) (lCons (eVar 7) (lNil)))))))) (tNotM (tTr (eCall F_law_asked [false, false, false, false] (lCons (eVar 8) (lCons (eVar 4) (lCons (eVar 3) (lCons (eVar 7) (lNil))))))))) (sRet (eC (.bl false))) (sSkip))
        (sSeq (sIf (tOrM (tNotM (tTr (eCall F_law_asked [false, false, false, false] (lCons (eVar 8) (lCons (eVar 5) (lCons (eVar 4) (lCons (eVar 7) (lNil)))))))) (tNotM (tTr (eCall F_law_asked [false, false, false, false] (lCons (eVar 8) (lCons (eVar 3) (lCons (eVar 6) (lCons (eVar 7) (lNil))))))))) (sRet (eC (.bl false))) (sSkip))
        (sIf (tOrM (tNotM (tTr (eCall F_law_asked [false, false, false, false] (lCons (eVar 8) (lCons (eVar 5) (lCons (eVar 6) (lCons (eVar 7) (lNil)))))))) (tNotM (tTr (eCall F_law_asked [false, false, false, false] (lCons (eVar 8) (lCons (eVar 6) (lCons (eVar 5) (lCons (eVar 7) (lNil))))))))) (sRet (eC (.bl false))) (sSkip)))))
      (sSeq (sFor (iRng (lCons (eOp2 oAdd (eVar 2) (eC (.int 3))) lNil)) (bName 9) (sIf (tNotM (tTr (eCall F_law_asked [false, false, false, false] (lCons (eC (.int 1)) (lCons (eVar 3) (lCons (eVar 4) (lCons (eOp2 oSub (eVar 9) (eC (.int 2))) (lNil)))))))) (sRet (eC (.bl false))) (sSkip)))
      (sRet (eAndV (eCall F_law_asked [false, false, false, false] (lCons (eC (.int 2)) (lCons (eVar 3) (lCons (eVar 3) (lCons (eC (.int 0)) (lNil)))))) (eCall F_law_asked [false, false, false, false] (lCons (eC (.int 3)) (lCons (eVar 4) (lCons (eVar 4) (lCons (eC (.int 0)) (lNil))))))))))))))))) := rfl
  have lh : ∃ t8 t9 : Za.Slot, mlaw [.val z, .emp, .emp, .emp, .emp, .emp, .emp, .emp, .emp, .emp] = .ret (.v (.bl true)) [.val z, .own b9, .val (.int c), .val (LL fs), .val (LL gs), .val (LL us), .val (LL vs), .val (.int (c4 - 20)), t8, t9] := by
    rw [hm, sSeq_nx s0]
    refine Exists.imp (fun t8 => Exists.imp fun t9 (e : _ = _) => (sSeq_nx s1).trans ((sSeq_nx s2).trans ((sSeq_nx s3).trans ((sSeq_nx s4).trans ((sSeq_nx s5).trans ((sSeq_nx s6).trans ((sSeq_nx s7).trans e))))))) ?_
    show ∃ t8 t9 : Za.Slot, sSeq _ _ [.val z, .own b9, .val (.int c), .val (LL fs), .val (LL gs), .val (LL us), .val (LL vs), .val (.int (c4 - 20)), .emp, .emp] = _
    clear t1 t2 t4 t5 t6 t7 t8 t9 s0 s1 s2 s3 s4 s5 s6 s7 e4 e5 e6 e7 e8 bx hm
    obtain ⟨Q, hQ⟩ : ∃ Q, Q = F_law_asked := ⟨_, rfl⟩
    rw [← hQ] at A ⊢
    clear hQ
    obtain ⟨u8, g8, l1⟩ := loop_same (ok := fun _ => true) (fun _ => rfl) (y := bName 8) (z := (sSeq (sIf (tOrM (tNotM (tTr (eCall Q [false, false, false, false] (lCons (eVar 8) (lCons (eVar 3) (lCons (eVar 4) (lCons (eVar 7) (lNil)))))))) (tNotM (tTr (eCall Q [false, false, false, false] (lCons (eVar 8) (lCons (eVar 4) (lCons (eVar 3) (lCons (eVar 7) (lNil))))))))) (sRet (eC (.bl false))) (sSkip))
        (sSeq (sIf (tOrM (tNotM (tTr (eCall Q [false, false, false, false] (lCons (eVar 8) (lCons (eVar 5) (lCons (eVar 4) (lCons (eVar 7) (lNil)))))))) (tNotM (tTr (eCall Q [false, false, false, false] (lCons (eVar 8) (lCons (eVar 3) (lCons (eVar 6) (lCons (eVar 7) (lNil))))))))) (sRet (eC (.bl false))) (sSkip))
        (sIf (tOrM (tNotM (tTr (eCall Q [false, false, false, false] (lCons (eVar 8) (lCons (eVar 5) (lCons (eVar 6) (lCons (eVar 7) (lNil)))))))) (tNotM (tTr (eCall Q [false, false, false, false] (lCons (eVar 8) (lCons (eVar 6) (lCons (eVar 5) (lCons (eVar 7) (lNil))))))))) (sRet (eC (.bl false))) (sSkip))))) (fun s => [.val z, .own b9, .val (.int c), .val (LL fs), .val (LL gs), .val (LL us), .val (LL vs), .val (.int (c4 - 20)), s, .emp]) (rngD 0 4) .emp (.inl rfl) (by
          intro d hd
          have : ∃ w : Nat, w < 4 ∧ d = .int (w : Int) := by
            rw [rngD_map, List.mem_map] at hd
            obtain ⟨w, hw, rfl⟩ := hd
            exact ⟨w, by simpa using hw, rfl⟩
          obtain ⟨w, hw, rfl⟩ := this
          refine ⟨fun s hs => by rcases hs with rfl | ⟨d', rfl⟩ <;> simp [bName, storable], ?_⟩
          have A1 := A w hw fs gs (c4 - 20) lf lg
          have A2 := A w hw gs fs (c4 - 20) lg lf
          have A3 := A w hw us gs (c4 - 20) lu lg
          have A4 := A w hw fs vs (c4 - 20) lf lv
          have A5 := A w hw us vs (c4 - 20) lu lv
          have A6 := A w hw vs us (c4 - 20) lv lu
          simp [fnM, fin, outsOf, argS, eB_r, eV_r, op2_r, eOp2_r, erO, erO2, erB, erV, opC, retR, cont, frz, mineD, tB_r, erT, trC, tTr_r, erTr, trE, trD, truth, tAndM_r, trA, tOrM_r, trO, tNotM_r, trN, eAndV_r, trAV, eOrV_r, trOV, eNotV_r, trNV, eIf_r, trIV, eVar_r, slV, slA, eC_r, lNil_r, lCons_r, erC, lrC, eFn_r, lrF, lrF2, conts, eTup_r, lrT, lrT2, vals, eLst_r, lrL, lrL2, sSeq_r, srQ, sExpr_r, erE, sRet_r, erR, sSkip_r, sRetN_r, sIf_r, trI, sStore_r, erS, sSet_r, sOwn_r, sSetX_r, setX, setO, setV_r, avV, storable, eCall_r, lrK, mkK, mkArgs, callR, wb, okRet, okErr, sRaise_r, erX, ePart_none, ePart_some, erP, slI, eSl_r, erSl, slK_r, slK2_r, cutC, oSl, isMut, putMut, setAt, mutD, reD, sItem, itemK, bName, bTup, bAll, fLen, fInt, fList, oIx, oGt, oLt, oGe, oLe, oDiv, oMod, oMul, oAdd, oSub, oPow, o2I, o2C, small, isLst, oNotN, oIsN, Za.isNon, oIn, seqD, flat_int, flats_ints, mst1, mst2, mst3, mst4, or_ite, and_ite, eKid_r, slKd, kdV, flat_str, flat_bl, flat_non, flat_ints, eqv_ints, eqvs_ints, setX, noAl, A1, A2, A3, A4, A5, A6])
    obtain ⟨u9, g9, l2⟩ := loop_same (ok := fun _ => true) (fun _ => rfl) (y := bName 9) (z := (sIf (tNotM (tTr (eCall Q [false, false, false, false] (lCons (eC (.int 1)) (lCons (eVar 3) (lCons (eVar 4) (lCons (eOp2 oSub (eVar 9) (eC (.int 2))) (lNil)))))))) (sRet (eC (.bl false))) (sSkip))) (fun s => [.val z, .own b9, .val (.int c), .val (LL fs), .val (LL gs), .val (LL us), .val (LL vs), .val (.int (c4 - 20)), u8, s]) (rngD 0 (c + 3).toNat) .emp (.inl rfl) (by
          intro d hd
          have : ∃ w : Nat, d = .int (w : Int) := by
            rw [rngD_map, List.mem_map] at hd
            obtain ⟨w, hw, rfl⟩ := hd
            exact ⟨w, rfl⟩
          obtain ⟨w, rfl⟩ := this
          refine ⟨fun s hs => by rcases hs with rfl | ⟨d', rfl⟩ <;> simp [bName, storable], ?_⟩
          have A1 := A 1 (by omega) fs gs ((w : Int) - 2) lf lg
          simp at A1
          simp [fnM, fin, outsOf, argS, eB_r, eV_r, op2_r, eOp2_r, erO, erO2, erB, erV, opC, retR, cont, frz, mineD, tB_r, erT, trC, tTr_r, erTr, trE, trD, truth, tAndM_r, trA, tOrM_r, trO, tNotM_r, trN, eAndV_r, trAV, eOrV_r, trOV, eNotV_r, trNV, eIf_r, trIV, eVar_r, slV, slA, eC_r, lNil_r, lCons_r, erC, lrC, eFn_r, lrF, lrF2, conts, eTup_r, lrT, lrT2, vals, eLst_r, lrL, lrL2, sSeq_r, srQ, sExpr_r, erE, sRet_r, erR, sSkip_r, sRetN_r, sIf_r, trI, sStore_r, erS, sSet_r, sOwn_r, sSetX_r, setX, setO, setV_r, avV, storable, eCall_r, lrK, mkK, mkArgs, callR, wb, okRet, okErr, sRaise_r, erX, ePart_none, ePart_some, erP, slI, eSl_r, erSl, slK_r, slK2_r, cutC, oSl, isMut, putMut, setAt, mutD, reD, sItem, itemK, bName, bTup, bAll, fLen, fInt, fList, oIx, oGt, oLt, oGe, oLe, oDiv, oMod, oMul, oAdd, oSub, oPow, o2I, o2C, small, isLst, oNotN, oIsN, Za.isNon, oIn, seqD, flat_int, flats_ints, mst1, mst2, mst3, mst4, or_ite, and_ite, eKid_r, slKd, kdV, flat_str, flat_bl, flat_non, flat_ints, eqv_ints, eqvs_ints, setX, noAl, A1])
    refine ⟨u8, u9, ?_⟩
    have i1 : iRng (lCons (eC (.int 4)) lNil) [.val z, .own b9, .val (.int c), .val (LL fs), .val (LL gs), .val (LL us), .val (LL vs), .val (.int (c4 - 20)), .emp, .emp] = .ok (rngD 0 4) none [.val z, .own b9, .val (.int c), .val (LL fs), .val (LL gs), .val (LL us), .val (LL vs), .val (.int (c4 - 20)), .emp, .emp] := rngI (j := 4) rfl (by omega)
    rw [sSeq_nx ((sFor_none i1).trans l1)]
    have i2 : iRng (lCons (eOp2 oAdd (eVar 2) (eC (.int 3))) lNil) [.val z, .own b9, .val (.int c), .val (LL fs), .val (LL gs), .val (LL us), .val (LL vs), .val (.int (c4 - 20)), u8, .emp] = .ok (rngD 0 (c + 3).toNat) none [.val z, .own b9, .val (.int c), .val (LL fs), .val (LL gs), .val (LL us), .val (LL vs), .val (.int (c4 - 20)), u8, .emp] := rngI (j := c + 3) (by simp [fnM, fin, outsOf, argS, eB_r, eV_r, op2_r, eOp2_r, erO, erO2, erB, erV, opC, retR, cont, frz, mineD, tB_r, erT, trC, tTr_r, erTr, trE, trD, truth, tAndM_r, trA, tOrM_r, trO, tNotM_r, trN, eAndV_r, trAV, eOrV_r, trOV, eNotV_r, trNV, eIf_r, trIV, eVar_r, slV, slA, eC_r, lNil_r, lCons_r, erC, lrC, eFn_r, lrF, lrF2, conts, eTup_r, lrT, lrT2, vals, eLst_r, lrL, lrL2, sSeq_r, srQ, sExpr_r, erE, sRet_r, erR, sSkip_r, sRetN_r, sIf_r, trI, sStore_r, erS, sSet_r, sOwn_r, sSetX_r, setX, setO, setV_r, avV, storable, eCall_r, lrK, mkK, mkArgs, callR, wb, okRet, okErr, sRaise_r, erX, ePart_none, ePart_some, erP, slI, eSl_r, erSl, slK_r, slK2_r, cutC, oSl, isMut, putMut, setAt, mutD, reD, sItem, itemK, bName, bTup, bAll, fLen, fInt, fList, oIx, oGt, oLt, oGe, oLe, oDiv, oMod, oMul, oAdd, oSub, oPow, o2I, o2C, small, isLst, oNotN, oIsN, Za.isNon, oIn, seqD, flat_int, flats_ints, mst1, mst2, mst3, mst4, or_ite, and_ite, eKid_r, slKd, kdV, flat_str, flat_bl, flat_non, flat_ints, eqv_ints, eqvs_ints, setX, noAl]) (by omega)
    rw [sSeq_nx ((sFor_none i2).trans l2)]
    have A1 := A 2 (by omega) fs fs 0 lf lf
    have A2 := A 3 (by omega) gs gs 0 lg lg
    simp at A1 A2
    simp [fnM, fin, outsOf, argS, eB_r, eV_r, op2_r, eOp2_r, erO, erO2, erB, erV, opC, retR, cont, frz, mineD, tB_r, erT, trC, tTr_r, erTr, trE, trD, truth, tAndM_r, trA, tOrM_r, trO, tNotM_r, trN, eAndV_r, trAV, eOrV_r, trOV, eNotV_r, trNV, eIf_r, trIV, eVar_r, slV, slA, eC_r, lNil_r, lCons_r, erC, lrC, eFn_r, lrF, lrF2, conts, eTup_r, lrT, lrT2, vals, eLst_r, lrL, lrL2, sSeq_r, srQ, sExpr_r, erE, sRet_r, erR, sSkip_r, sRetN_r, sIf_r, trI, sStore_r, erS, sSet_r, sOwn_r, sSetX_r, setX, setO, setV_r, avV, storable, eCall_r, lrK, mkK, mkArgs, callR, wb, okRet, okErr, sRaise_r, erX, ePart_none, ePart_some, erP, slI, eSl_r, erSl, slK_r, slK2_r, cutC, oSl, isMut, putMut, setAt, mutD, reD, sItem, itemK, bName, bTup, bAll, fLen, fInt, fList, oIx, oGt, oLt, oGe, oLe, oDiv, oMod, oMul, oAdd, oSub, oPow, o2I, o2C, small, isLst, oNotN, oIsN, Za.isNon, oIn, seqD, flat_int, flats_ints, mst1, mst2, mst3, mst4, or_ite, and_ite, eKid_r, slKd, kdV, flat_str, flat_bl, flat_non, flat_ints, eqv_ints, eqvs_ints, setX, noAl, A1, A2]
  obtain ⟨t8', t9', lh⟩ := lh
  unfold Flaw
  refine (fnM_eq (n := 10) (args := [.v z]) (sl := [.val z, .emp, .emp, .emp, .emp, .emp, .emp, .emp, .emp, .emp]) rfl lh).trans ?_
  rfl
end Zk06
end
section
set_option Elab.async false
set_option linter.all false
set_option maxRecDepth 100000
set_option maxHeartbeats 4000000
namespace Zk06
open PySem PySem.Spec PyProof.Rows L2 Za
theorem bind1 {K : PySem.W.Frag} {x qual a : Str} {st : Stmt} {f : Addr} {fd : FuncData} (F : Fun K x qual st f fd) {ps : List Str} (h : ∀ (kV doc pm : Value) (an : Option Addr) (cdv ct : Value) (us : List Value), us.length = ps.length → bindArgs (PySem.W.fnOf x qual (defArgs st) (defBody st) (defScope st) .none kV doc pm an cdv ct) ⟨us, []⟩ = pure (ps.zip us)) : Binds K fd ps [] := F.binds h
def spLaw (K : PySem.W.Frag) : Sp := fun vs H Q _ => ∃ (a : Addr) (ns : List Int), vs = [.ref a] ∧ SqL K H a (ns.map V.int) ∧ ns.length ≤ 63 ∧ ∀ H', Q (.bl true) H'
theorem law_sp {K : PySem.W.Frag} {cA : Nat → Addr} : ∀ vs H Q E, spLaw K vs H Q E → spF cA K 1 Flaw vs H Q E := fun vs H Q E ⟨a, ns, e, hS, hl, k⟩ => by
  subst e
  refine ⟨rfl, H, [], [.v (.kst (ns.map D.int))], .refl _, .v (.kst hS (Reps.ints ns)) .nil, ?_⟩
  rw [law_true ns hl]
  intro v F' H' R r
  have r' : Rep ⟨K, cA⟩ F' v (.bl true) := r
  cases r'
  exact k H'
theorem all_mk {l : PySem.W.OpenLaw} {w : World} {K : PySem.W.Frag} {h : Heap} {mg : Str → Option Value} {fa : Addr} (X : K.In h) (G : h.Ns mainGlobals mg) (hfa : mg "law" = some (.ref fa))
    {f0 : Addr} {od0 an0 : Option Addr} {sl0 : Array (Option Value)} {oc0 kV0 dc0 pm0 cd0 ct0 : Value}
    {f1 : Addr} {od1 an1 : Option Addr} {sl1 : Array (Option Value)} {oc1 kV1 dc1 pm1 cd1 ct1 : Value}
    {f2 : Addr} {od2 an2 : Option Addr} {sl2 : Array (Option Value)} {oc2 kV2 dc2 pm2 cd2 ct2 : Value}
    {f3 : Addr} {od3 an3 : Option Addr} {sl3 : Array (Option Value)} {oc3 kV3 dc3 pm3 cd3 ct3 : Value}
    {f4 : Addr} {od4 an4 : Option Addr} {sl4 : Array (Option Value)} {oc4 kV4 dc4 pm4 cd4 ct4 : Value}
    {f5 : Addr} {od5 an5 : Option Addr} {sl5 : Array (Option Value)} {oc5 kV5 dc5 pm5 cd5 ct5 : Value}
    {f6 : Addr} {od6 an6 : Option Addr} {sl6 : Array (Option Value)} {oc6 kV6 dc6 pm6 cd6 ct6 : Value}
    {f7 : Addr} {od7 an7 : Option Addr} {sl7 : Array (Option Value)} {oc7 kV7 dc7 pm7 cd7 ct7 : Value}
    {f8 : Addr} {od8 an8 : Option Addr} {sl8 : Array (Option Value)} {oc8 kV8 dc8 pm8 cd8 ct8 : Value}
    {f9 : Addr} {od9 an9 : Option Addr} {sl9 : Array (Option Value)} {oc9 kV9 dc9 pm9 cd9 ct9 : Value}
    {f10 : Addr} {od10 an10 : Option Addr} {sl10 : Array (Option Value)} {oc10 kV10 dc10 pm10 cd10 ct10 : Value}
    {f11 : Addr} {od11 an11 : Option Addr} {sl11 : Array (Option Value)} {oc11 kV11 dc11 pm11 cd11 ct11 : Value}
    {f12 : Addr} {od12 an12 : Option Addr} {sl12 : Array (Option Value)} {oc12 kV12 dc12 pm12 cd12 ct12 : Value}
    {f13 : Addr} {od13 an13 : Option Addr} {sl13 : Array (Option Value)} {oc13 kV13 dc13 pm13 cd13 ct13 : Value}
    {f14 : Addr} {od14 an14 : Option Addr} {sl14 : Array (Option Value)} {oc14 kV14 dc14 pm14 cd14 ct14 : Value}
    {f15 : Addr} {od15 an15 : Option Addr} {sl15 : Array (Option Value)} {oc15 kV15 dc15 pm15 cd15 ct15 : Value}
    {f16 : Addr} {od16 an16 : Option Addr} {sl16 : Array (Option Value)} {oc16 kV16 dc16 pm16 cd16 ct16 : Value}
    {f17 : Addr} {od17 an17 : Option Addr} {sl17 : Array (Option Value)} {oc17 kV17 dc17 pm17 cd17 ct17 : Value}
    {f18 : Addr} {od18 an18 : Option Addr} {sl18 : Array (Option Value)} {oc18 kV18 dc18 pm18 cd18 ct18 : Value}
    {f19 : Addr} {od19 an19 : Option Addr} {sl19 : Array (Option Value)} {oc19 kV19 dc19 pm19 cd19 ct19 : Value}
    {f20 : Addr} {od20 an20 : Option Addr} {sl20 : Array (Option Value)} {oc20 kV20 dc20 pm20 cd20 ct20 : Value}
    {f21 : Addr} {od21 an21 : Option Addr} {sl21 : Array (Option Value)} {oc21 kV21 dc21 pm21 cd21 ct21 : Value}
    {f22 : Addr} {od22 an22 : Option Addr} {sl22 : Array (Option Value)} {oc22 kV22 dc22 pm22 cd22 ct22 : Value}
    {f23 : Addr} {od23 an23 : Option Addr} {sl23 : Array (Option Value)} {oc23 kV23 dc23 pm23 cd23 ct23 : Value}
    {f24 : Addr} {od24 an24 : Option Addr} {sl24 : Array (Option Value)} {oc24 kV24 dc24 pm24 cd24 ct24 : Value}
    {f25 : Addr} {od25 an25 : Option Addr} {sl25 : Array (Option Value)} {oc25 kV25 dc25 pm25 cd25 ct25 : Value}
    {f26 : Addr} {od26 an26 : Option Addr} {sl26 : Array (Option Value)} {oc26 kV26 dc26 pm26 cd26 ct26 : Value}
    {f27 : Addr} {od27 an27 : Option Addr} {sl27 : Array (Option Value)} {oc27 kV27 dc27 pm27 cd27 ct27 : Value}
    {f28 : Addr} {od28 an28 : Option Addr} {sl28 : Array (Option Value)} {oc28 kV28 dc28 pm28 cd28 ct28 : Value}
    {C0 : Addr}
    {C1 : Addr}
    {fI1 N1 : Addr} {nm1 q1 : Str} {bs1 bm1 sub1 : List Value} {sn1 : List Str} {ab1 : Bool} {co1 : Option Bool} {dd1 : Option Addr} {ma1 mb1 mc1 md1 me1 : Option Value} {odI1 anI1 : Option Addr} {slI1 : Array (Option Value)} {ocI1 kVI1 dcI1 pmI1 cdI1 ctI1 : Value}
    {C2 : Addr}
    {fI2 N2 : Addr} {nm2 q2 : Str} {bs2 bm2 sub2 : List Value} {sn2 : List Str} {ab2 : Bool} {co2 : Option Bool} {dd2 : Option Addr} {ma2 mb2 mc2 md2 me2 : Option Value} {odI2 anI2 : Option Addr} {slI2 : Array (Option Value)} {ocI2 kVI2 dcI2 pmI2 cdI2 ctI2 : Value}
    {C3 : Addr}
    {fI3 N3 : Addr} {nm3 q3 : Str} {bs3 bm3 sub3 : List Value} {sn3 : List Str} {ab3 : Bool} {co3 : Option Bool} {dd3 : Option Addr} {ma3 mb3 mc3 md3 me3 : Option Value} {odI3 anI3 : Option Addr} {slI3 : Array (Option Value)} {ocI3 kVI3 dcI3 pmI3 cdI3 ctI3 : Value}
    {tk_MOST_KEYS : Tok}
    {tk_GREATEST_KEY : Tok}
    (a0 : PySem.W.nsIn K mainGlobals "first_wrong_place" = some (some (.ref f0)))
    (l0 : K.lookup f0 = some ⟨oc0, od0, .func (PySem.W.fnOf "first_wrong_place" "first_wrong_place" (defArgs sfirst_wrong_place) (defBody sfirst_wrong_place) (defScope sfirst_wrong_place) .none kV0 dc0 pm0 an0 cd0 ct0), sl0⟩)
    (c0 : PySem.W.codeIn K cd0 "first_wrong_place" = true)
    (k0 : PySem.W.keepIn K (.ref f0) = true)
    (a1 : PySem.W.nsIn K mainGlobals "check_like_keys" = some (some (.ref f1)))
    (l1 : K.lookup f1 = some ⟨oc1, od1, .func (PySem.W.fnOf "check_like_keys" "check_like_keys" (defArgs scheck_like_keys) (defBody scheck_like_keys) (defScope scheck_like_keys) .none kV1 dc1 pm1 an1 cd1 ct1), sl1⟩)
    (c1 : PySem.W.codeIn K cd1 "check_like_keys" = true)
    (k1 : PySem.W.keepIn K (.ref f1) = true)
    (a2 : PySem.W.nsIn K mainGlobals "pairs_in" = some (some (.ref f2)))
    (l2 : K.lookup f2 = some ⟨oc2, od2, .func (PySem.W.fnOf "pairs_in" "pairs_in" (defArgs spairs_in) (defBody spairs_in) (defScope spairs_in) .none kV2 dc2 pm2 an2 cd2 ct2), sl2⟩)
    (c2 : PySem.W.codeIn K cd2 "pairs_in" = true)
    (k2 : PySem.W.keepIn K (.ref f2) = true)
    (a3 : PySem.W.nsIn K mainGlobals "check_list" = some (some (.ref f3)))
    (l3 : K.lookup f3 = some ⟨oc3, od3, .func (PySem.W.fnOf "check_list" "check_list" (defArgs scheck_list) (defBody scheck_list) (defScope scheck_list) .none kV3 dc3 pm3 an3 cd3 ct3), sl3⟩)
    (c3 : PySem.W.codeIn K cd3 "check_list" = true)
    (k3 : PySem.W.keepIn K (.ref f3) = true)
    (a4 : PySem.W.nsIn K mainGlobals "swap_at" = some (some (.ref f4)))
    (l4 : K.lookup f4 = some ⟨oc4, od4, .func (PySem.W.fnOf "swap_at" "swap_at" (defArgs sswap_at) (defBody sswap_at) (defScope sswap_at) .none kV4 dc4 pm4 an4 cd4 ct4), sl4⟩)
    (c4 : PySem.W.codeIn K cd4 "swap_at" = true)
    (k4 : PySem.W.keepIn K (.ref f4) = true)
    (a5 : PySem.W.nsIn K mainGlobals "differing_pairs" = some (some (.ref f5)))
    (l5 : K.lookup f5 = some ⟨oc5, od5, .func (PySem.W.fnOf "differing_pairs" "differing_pairs" (defArgs sdiffering_pairs) (defBody sdiffering_pairs) (defScope sdiffering_pairs) .none kV5 dc5 pm5 an5 cd5 ct5), sl5⟩)
    (c5 : PySem.W.codeIn K cd5 "differing_pairs" = true)
    (k5 : PySem.W.keepIn K (.ref f5) = true)
    (a6 : PySem.W.nsIn K mainGlobals "straight_swaps" = some (some (.ref f6)))
    (l6 : K.lookup f6 = some ⟨oc6, od6, .func (PySem.W.fnOf "straight_swaps" "straight_swaps" (defArgs sstraight_swaps) (defBody sstraight_swaps) (defScope sstraight_swaps) .none kV6 dc6 pm6 an6 cd6 ct6), sl6⟩)
    (c6 : PySem.W.codeIn K cd6 "straight_swaps" = true)
    (k6 : PySem.W.keepIn K (.ref f6) = true)
    (a7 : PySem.W.nsIn K mainGlobals "check_two_lists" = some (some (.ref f7)))
    (l7 : K.lookup f7 = some ⟨oc7, od7, .func (PySem.W.fnOf "check_two_lists" "check_two_lists" (defArgs scheck_two_lists) (defBody scheck_two_lists) (defScope scheck_two_lists) .none kV7 dc7 pm7 an7 cd7 ct7), sl7⟩)
    (c7 : PySem.W.codeIn K cd7 "check_two_lists" = true)
    (k7 : PySem.W.keepIn K (.ref f7) = true)
    (a8 : PySem.W.nsIn K mainGlobals "first_turned" = some (some (.ref f8)))
    (l8 : K.lookup f8 = some ⟨oc8, od8, .func (PySem.W.fnOf "first_turned" "first_turned" (defArgs sfirst_turned) (defBody sfirst_turned) (defScope sfirst_turned) .none kV8 dc8 pm8 an8 cd8 ct8), sl8⟩)
    (c8 : PySem.W.codeIn K cd8 "first_turned" = true)
    (k8 : PySem.W.keepIn K (.ref f8) = true)
    (a9 : PySem.W.nsIn K mainGlobals "_law_box" = some (some (.ref f9)))
    (l9 : K.lookup f9 = some ⟨oc9, od9, .func (PySem.W.fnOf "_law_box" "_law_box" (defArgs s_law_box) (defBody s_law_box) (defScope s_law_box) .none kV9 dc9 pm9 an9 cd9 ct9), sl9⟩)
    (c9 : PySem.W.codeIn K cd9 "_law_box" = true)
    (k9 : PySem.W.keepIn K (.ref f9) = true)
    (a10 : PySem.W.nsIn K mainGlobals "_law_take" = some (some (.ref f10)))
    (l10 : K.lookup f10 = some ⟨oc10, od10, .func (PySem.W.fnOf "_law_take" "_law_take" (defArgs s_law_take) (defBody s_law_take) (defScope s_law_take) .none kV10 dc10 pm10 an10 cd10 ct10), sl10⟩)
    (c10 : PySem.W.codeIn K cd10 "_law_take" = true)
    (k10 : PySem.W.keepIn K (.ref f10) = true)
    (a11 : PySem.W.nsIn K mainGlobals "_law_keys" = some (some (.ref f11)))
    (l11 : K.lookup f11 = some ⟨oc11, od11, .func (PySem.W.fnOf "_law_keys" "_law_keys" (defArgs s_law_keys) (defBody s_law_keys) (defScope s_law_keys) .none kV11 dc11 pm11 an11 cd11 ct11), sl11⟩)
    (c11 : PySem.W.codeIn K cd11 "_law_keys" = true)
    (k11 : PySem.W.keepIn K (.ref f11) = true)
    (a12 : PySem.W.nsIn K mainGlobals "_law_order" = some (some (.ref f12)))
    (l12 : K.lookup f12 = some ⟨oc12, od12, .func (PySem.W.fnOf "_law_order" "_law_order" (defArgs s_law_order) (defBody s_law_order) (defScope s_law_order) .none kV12 dc12 pm12 an12 cd12 ct12), sl12⟩)
    (c12 : PySem.W.codeIn K cd12 "_law_order" = true)
    (k12 : PySem.W.keepIn K (.ref f12) = true)
    (a13 : PySem.W.nsIn K mainGlobals "_law_int" = some (some (.ref f13)))
    (l13 : K.lookup f13 = some ⟨oc13, od13, .func (PySem.W.fnOf "_law_int" "_law_int" (defArgs s_law_int) (defBody s_law_int) (defScope s_law_int) .none kV13 dc13 pm13 an13 cd13 ct13), sl13⟩)
    (c13 : PySem.W.codeIn K cd13 "_law_int" = true)
    (k13 : PySem.W.keepIn K (.ref f13) = true)
    (a14 : PySem.W.nsIn K mainGlobals "_law_ints" = some (some (.ref f14)))
    (l14 : K.lookup f14 = some ⟨oc14, od14, .func (PySem.W.fnOf "_law_ints" "_law_ints" (defArgs s_law_ints) (defBody s_law_ints) (defScope s_law_ints) .none kV14 dc14 pm14 an14 cd14 ct14), sl14⟩)
    (c14 : PySem.W.codeIn K cd14 "_law_ints" = true)
    (k14 : PySem.W.keepIn K (.ref f14) = true)
    (a15 : PySem.W.nsIn K mainGlobals "_law_tuple" = some (some (.ref f15)))
    (l15 : K.lookup f15 = some ⟨oc15, od15, .func (PySem.W.fnOf "_law_tuple" "_law_tuple" (defArgs s_law_tuple) (defBody s_law_tuple) (defScope s_law_tuple) .none kV15 dc15 pm15 an15 cd15 ct15), sl15⟩)
    (c15 : PySem.W.codeIn K cd15 "_law_tuple" = true)
    (k15 : PySem.W.keepIn K (.ref f15) = true)
    (a16 : PySem.W.nsIn K mainGlobals "_law_tuples" = some (some (.ref f16)))
    (l16 : K.lookup f16 = some ⟨oc16, od16, .func (PySem.W.fnOf "_law_tuples" "_law_tuples" (defArgs s_law_tuples) (defBody s_law_tuples) (defScope s_law_tuples) .none kV16 dc16 pm16 an16 cd16 ct16), sl16⟩)
    (c16 : PySem.W.codeIn K cd16 "_law_tuples" = true)
    (k16 : PySem.W.keepIn K (.ref f16) = true)
    (a17 : PySem.W.nsIn K mainGlobals "_law_widened" = some (some (.ref f17)))
    (l17 : K.lookup f17 = some ⟨oc17, od17, .func (PySem.W.fnOf "_law_widened" "_law_widened" (defArgs s_law_widened) (defBody s_law_widened) (defScope s_law_widened) .none kV17 dc17 pm17 an17 cd17 ct17), sl17⟩)
    (c17 : PySem.W.codeIn K cd17 "_law_widened" = true)
    (k17 : PySem.W.keepIn K (.ref f17) = true)
    (a18 : PySem.W.nsIn K mainGlobals "_law_wrong" = some (some (.ref f18)))
    (l18 : K.lookup f18 = some ⟨oc18, od18, .func (PySem.W.fnOf "_law_wrong" "_law_wrong" (defArgs s_law_wrong) (defBody s_law_wrong) (defScope s_law_wrong) .none kV18 dc18 pm18 an18 cd18 ct18), sl18⟩)
    (c18 : PySem.W.codeIn K cd18 "_law_wrong" = true)
    (k18 : PySem.W.keepIn K (.ref f18) = true)
    (a19 : PySem.W.nsIn K mainGlobals "_law_unlike" = some (some (.ref f19)))
    (l19 : K.lookup f19 = some ⟨oc19, od19, .func (PySem.W.fnOf "_law_unlike" "_law_unlike" (defArgs s_law_unlike) (defBody s_law_unlike) (defScope s_law_unlike) .none kV19 dc19 pm19 an19 cd19 ct19), sl19⟩)
    (c19 : PySem.W.codeIn K cd19 "_law_unlike" = true)
    (k19 : PySem.W.keepIn K (.ref f19) = true)
    (a20 : PySem.W.nsIn K mainGlobals "_law_bent" = some (some (.ref f20)))
    (l20 : K.lookup f20 = some ⟨oc20, od20, .func (PySem.W.fnOf "_law_bent" "_law_bent" (defArgs s_law_bent) (defBody s_law_bent) (defScope s_law_bent) .none kV20 dc20 pm20 an20 cd20 ct20), sl20⟩)
    (c20 : PySem.W.codeIn K cd20 "_law_bent" = true)
    (k20 : PySem.W.keepIn K (.ref f20) = true)
    (a21 : PySem.W.nsIn K mainGlobals "_law_exchanged" = some (some (.ref f21)))
    (l21 : K.lookup f21 = some ⟨oc21, od21, .func (PySem.W.fnOf "_law_exchanged" "_law_exchanged" (defArgs s_law_exchanged) (defBody s_law_exchanged) (defScope s_law_exchanged) .none kV21 dc21 pm21 an21 cd21 ct21), sl21⟩)
    (c21 : PySem.W.codeIn K cd21 "_law_exchanged" = true)
    (k21 : PySem.W.keepIn K (.ref f21) = true)
    (a22 : PySem.W.nsIn K mainGlobals "_law_second" = some (some (.ref f22)))
    (l22 : K.lookup f22 = some ⟨oc22, od22, .func (PySem.W.fnOf "_law_second" "_law_second" (defArgs s_law_second) (defBody s_law_second) (defScope s_law_second) .none kV22 dc22 pm22 an22 cd22 ct22), sl22⟩)
    (c22 : PySem.W.codeIn K cd22 "_law_second" = true)
    (k22 : PySem.W.keepIn K (.ref f22) = true)
    (a23 : PySem.W.nsIn K mainGlobals "_law_differing" = some (some (.ref f23)))
    (l23 : K.lookup f23 = some ⟨oc23, od23, .func (PySem.W.fnOf "_law_differing" "_law_differing" (defArgs s_law_differing) (defBody s_law_differing) (defScope s_law_differing) .none kV23 dc23 pm23 an23 cd23 ct23), sl23⟩)
    (c23 : PySem.W.codeIn K cd23 "_law_differing" = true)
    (k23 : PySem.W.keepIn K (.ref f23) = true)
    (a24 : PySem.W.nsIn K mainGlobals "_law_straight" = some (some (.ref f24)))
    (l24 : K.lookup f24 = some ⟨oc24, od24, .func (PySem.W.fnOf "_law_straight" "_law_straight" (defArgs s_law_straight) (defBody s_law_straight) (defScope s_law_straight) .none kV24 dc24 pm24 an24 cd24 ct24), sl24⟩)
    (c24 : PySem.W.codeIn K cd24 "_law_straight" = true)
    (k24 : PySem.W.keepIn K (.ref f24) = true)
    (a25 : PySem.W.nsIn K mainGlobals "_law_ask" = some (some (.ref f25)))
    (l25 : K.lookup f25 = some ⟨oc25, od25, .func (PySem.W.fnOf "_law_ask" "_law_ask" (defArgs s_law_ask) (defBody s_law_ask) (defScope s_law_ask) .none kV25 dc25 pm25 an25 cd25 ct25), sl25⟩)
    (c25 : PySem.W.codeIn K cd25 "_law_ask" = true)
    (k25 : PySem.W.keepIn K (.ref f25) = true)
    (a26 : PySem.W.nsIn K mainGlobals "_law_due" = some (some (.ref f26)))
    (l26 : K.lookup f26 = some ⟨oc26, od26, .func (PySem.W.fnOf "_law_due" "_law_due" (defArgs s_law_due) (defBody s_law_due) (defScope s_law_due) .none kV26 dc26 pm26 an26 cd26 ct26), sl26⟩)
    (c26 : PySem.W.codeIn K cd26 "_law_due" = true)
    (k26 : PySem.W.keepIn K (.ref f26) = true)
    (a27 : PySem.W.nsIn K mainGlobals "_law_asked" = some (some (.ref f27)))
    (l27 : K.lookup f27 = some ⟨oc27, od27, .func (PySem.W.fnOf "_law_asked" "_law_asked" (defArgs s_law_asked) (defBody s_law_asked) (defScope s_law_asked) .none kV27 dc27 pm27 an27 cd27 ct27), sl27⟩)
    (c27 : PySem.W.codeIn K cd27 "_law_asked" = true)
    (k27 : PySem.W.keepIn K (.ref f27) = true)
    (a28 : PySem.W.nsIn K mainGlobals "law" = some (some (.ref f28)))
    (l28 : K.lookup f28 = some ⟨oc28, od28, .func (PySem.W.fnOf "law" "law" (defArgs slaw) (defBody slaw) (defScope slaw) .none kV28 dc28 pm28 an28 cd28 ct28), sl28⟩)
    (c28 : PySem.W.codeIn K cd28 "law" = true)
    (k28 : PySem.W.keepIn K (.ref f28) = true)
    (ac0 : PySem.W.nsIn K mainGlobals "DriftError" = some (some (.ref C0)))
    (ac1 : PySem.W.nsIn K mainGlobals "InvalidList" = some (some (.ref C1)))
    (xl1 : K.lookup C1 = some (excClassObj nm1 q1 C1 N1 bs1 bm1 true sn1 sub1 ab1 co1 dd1 ma1 mb1 mc1 md1 me1 "ValueError.__new__"))
    (rv1 : PySem.HandSPX.refsVE bm1 = true)
    (sa1 : PySem.W.findIn K (.ref C1) "__setattr__" = some (some (.builtin "object.__setattr__")))
    (ga1 : PySem.W.findIn K (.ref C1) "__getattribute__" = some (some (.builtin "BaseException.__getattribute__")))
    (gg1 : PySem.W.findIn K (.ref C1) "__getattr__" = some none)
    (nf1 : PySem.W.findIn K (.ref C1) "place" = some none)
    (ai1 : PySem.W.findIn K (.ref C1) "__init__" = some (some (.ref fI1)))
    (ti1 : PySem.W.typeIn K (.ref fI1) = some (.type "function"))
    (li1 : K.lookup fI1 = some ⟨ocI1, odI1, .func (PySem.W.fnOf "__init__" "InvalidList.__init__" (defArgs sInit1) (defBody sInit1) (defScope sInit1) .none kVI1 dcI1 pmI1 anI1 cdI1 ctI1), slI1⟩)
    (ci1 : PySem.W.codeIn K cdI1 "InvalidList.__init__" = true)
    (ki1 : PySem.W.keepIn K (.ref fI1) = true)
    (kC1 : PySem.W.keepIn K (.ref C1) = true)
    (eC1 : PySem.W.subIn K (.ref C1) (.type "BaseException") = some true)
    (tC1 : PySem.W.typeIn K (.ref C1) = some (.type "type"))
    (hC1 : PySem.W.hasDictIn K C1 = true)
    (cl1 : (PySem.W.clsIn K C1).isSome = true)
    (kc1 : PySem.W.findIn K (.ref C1) "__class__" = some (some (.builtin "object.__class__")))
    (ob1 : PySem.W.mroIn K C1 (.type "object") = some true)
    (ac2 : PySem.W.nsIn K mainGlobals "UnlikeKeys" = some (some (.ref C2)))
    (xl2 : K.lookup C2 = some (excClassObj nm2 q2 C2 N2 bs2 bm2 true sn2 sub2 ab2 co2 dd2 ma2 mb2 mc2 md2 me2 "ValueError.__new__"))
    (rv2 : PySem.HandSPX.refsVE bm2 = true)
    (sa2 : PySem.W.findIn K (.ref C2) "__setattr__" = some (some (.builtin "object.__setattr__")))
    (ga2 : PySem.W.findIn K (.ref C2) "__getattribute__" = some (some (.builtin "BaseException.__getattribute__")))
    (gg2 : PySem.W.findIn K (.ref C2) "__getattr__" = some none)
    (nf2 : PySem.W.findIn K (.ref C2) "key" = some none)
    (ai2 : PySem.W.findIn K (.ref C2) "__init__" = some (some (.ref fI2)))
    (ti2 : PySem.W.typeIn K (.ref fI2) = some (.type "function"))
    (li2 : K.lookup fI2 = some ⟨ocI2, odI2, .func (PySem.W.fnOf "__init__" "UnlikeKeys.__init__" (defArgs sInit2) (defBody sInit2) (defScope sInit2) .none kVI2 dcI2 pmI2 anI2 cdI2 ctI2), slI2⟩)
    (ci2 : PySem.W.codeIn K cdI2 "UnlikeKeys.__init__" = true)
    (ki2 : PySem.W.keepIn K (.ref fI2) = true)
    (kC2 : PySem.W.keepIn K (.ref C2) = true)
    (eC2 : PySem.W.subIn K (.ref C2) (.type "BaseException") = some true)
    (tC2 : PySem.W.typeIn K (.ref C2) = some (.type "type"))
    (hC2 : PySem.W.hasDictIn K C2 = true)
    (cl2 : (PySem.W.clsIn K C2).isSome = true)
    (kc2 : PySem.W.findIn K (.ref C2) "__class__" = some (some (.builtin "object.__class__")))
    (ob2 : PySem.W.mroIn K C2 (.type "object") = some true)
    (ac3 : PySem.W.nsIn K mainGlobals "InvalidSwap" = some (some (.ref C3)))
    (xl3 : K.lookup C3 = some (excClassObj nm3 q3 C3 N3 bs3 bm3 true sn3 sub3 ab3 co3 dd3 ma3 mb3 mc3 md3 me3 "ValueError.__new__"))
    (rv3 : PySem.HandSPX.refsVE bm3 = true)
    (sa3 : PySem.W.findIn K (.ref C3) "__setattr__" = some (some (.builtin "object.__setattr__")))
    (ga3 : PySem.W.findIn K (.ref C3) "__getattribute__" = some (some (.builtin "BaseException.__getattribute__")))
    (gg3 : PySem.W.findIn K (.ref C3) "__getattr__" = some none)
    (nf3 : PySem.W.findIn K (.ref C3) "step" = some none)
    (ai3 : PySem.W.findIn K (.ref C3) "__init__" = some (some (.ref fI3)))
    (ti3 : PySem.W.typeIn K (.ref fI3) = some (.type "function"))
    (li3 : K.lookup fI3 = some ⟨ocI3, odI3, .func (PySem.W.fnOf "__init__" "InvalidSwap.__init__" (defArgs sInit3) (defBody sInit3) (defScope sInit3) .none kVI3 dcI3 pmI3 anI3 cdI3 ctI3), slI3⟩)
    (ci3 : PySem.W.codeIn K cdI3 "InvalidSwap.__init__" = true)
    (ki3 : PySem.W.keepIn K (.ref fI3) = true)
    (kC3 : PySem.W.keepIn K (.ref C3) = true)
    (eC3 : PySem.W.subIn K (.ref C3) (.type "BaseException") = some true)
    (tC3 : PySem.W.typeIn K (.ref C3) = some (.type "type"))
    (hC3 : PySem.W.hasDictIn K C3 = true)
    (cl3 : (PySem.W.clsIn K C3).isSome = true)
    (kc3 : PySem.W.findIn K (.ref C3) "__class__" = some (some (.builtin "object.__class__")))
    (ob3 : PySem.W.mroIn K C3 (.type "object") = some true)
    (xkg : PySem.W.specialIn K (.builtin "object.__class__") "__get__" = some (some (.builtin "getset_descriptor.__get__")))
    (xkt : PySem.W.takesIn K (.builtin "object.__class__") = some true)
    (e1_1 : PySem.W.exmOne K (.ref C1) (.ref C1) = some true)
    (e1_2 : PySem.W.exmOne K (.ref C1) (.ref C2) = some false)
    (e1_3 : PySem.W.exmOne K (.ref C1) (.ref C3) = some false)
    (i1_0 : PySem.W.kitOne K (.ref C1) (.ref C0) = some true)
    (i1_1 : PySem.W.kitOne K (.ref C1) (.ref C1) = some true)
    (i1_2 : PySem.W.kitOne K (.ref C1) (.ref C2) = some false)
    (i1_3 : PySem.W.kitOne K (.ref C1) (.ref C3) = some false)
    (iv1 : PySem.W.kitOne K (.ref C1) (.type "ValueError") = some true)
    (e2_1 : PySem.W.exmOne K (.ref C2) (.ref C1) = some false)
    (e2_2 : PySem.W.exmOne K (.ref C2) (.ref C2) = some true)
    (e2_3 : PySem.W.exmOne K (.ref C2) (.ref C3) = some false)
    (i2_0 : PySem.W.kitOne K (.ref C2) (.ref C0) = some true)
    (i2_1 : PySem.W.kitOne K (.ref C2) (.ref C1) = some false)
    (i2_2 : PySem.W.kitOne K (.ref C2) (.ref C2) = some true)
    (i2_3 : PySem.W.kitOne K (.ref C2) (.ref C3) = some false)
    (iv2 : PySem.W.kitOne K (.ref C2) (.type "ValueError") = some true)
    (e3_1 : PySem.W.exmOne K (.ref C3) (.ref C1) = some false)
    (e3_2 : PySem.W.exmOne K (.ref C3) (.ref C2) = some false)
    (e3_3 : PySem.W.exmOne K (.ref C3) (.ref C3) = some true)
    (i3_0 : PySem.W.kitOne K (.ref C3) (.ref C0) = some true)
    (i3_1 : PySem.W.kitOne K (.ref C3) (.ref C1) = some false)
    (i3_2 : PySem.W.kitOne K (.ref C3) (.ref C2) = some false)
    (i3_3 : PySem.W.kitOne K (.ref C3) (.ref C3) = some true)
    (iv3 : PySem.W.kitOne K (.ref C3) (.type "ValueError") = some true)
    (z_ValueError : PySem.W.nsIn K mainGlobals "ValueError" = some none)
    (z_abs : PySem.W.nsIn K mainGlobals "abs" = some none)
    (z_all : PySem.W.nsIn K mainGlobals "all" = some none)
    (z_bool : PySem.W.nsIn K mainGlobals "bool" = some none)
    (z_enumerate : PySem.W.nsIn K mainGlobals "enumerate" = some none)
    (z_int : PySem.W.nsIn K mainGlobals "int" = some none)
    (z_isinstance : PySem.W.nsIn K mainGlobals "isinstance" = some none)
    (z_len : PySem.W.nsIn K mainGlobals "len" = some none)
    (z_list : PySem.W.nsIn K mainGlobals "list" = some none)
    (z_min : PySem.W.nsIn K mainGlobals "min" = some none)
    (z_range : PySem.W.nsIn K mainGlobals "range" = some none)
    (z_set : PySem.W.nsIn K mainGlobals "set" = some none)
    (z_sorted : PySem.W.nsIn K mainGlobals "sorted" = some none)
    (z_tuple : PySem.W.nsIn K mainGlobals "tuple" = some none)
    (g_MOST_KEYS : PySem.W.nsIn K mainGlobals "MOST_KEYS" = some (some (.int 12 tk_MOST_KEYS)))
    (g_GREATEST_KEY : PySem.W.nsIn K mainGlobals "GREATEST_KEY" = some (some (.int 9999 tk_GREATEST_KEY)))
    : ∃ fd : FuncData, (∀ (s : Shared) (v : Value), BindsTo s fd ⟨[v], []⟩ [("script", v)]) ∧ ∀ base : Heap, K.In base → base.Ns mainGlobals mg → FnOk l.prog w K mg base (L2.CX l.prog w) 8 fa fd ["script"] (spLaw K) := by
  have e := hfa.symm.trans (PySem.W.mg_of X G a28)
  cases e
  have F0 := fun_mk (st := sfirst_wrong_place) l0 c0 k0
  have b0 := F0.binds (ps := ["order"]) fun _ _ _ _ _ _ us hl => match us, hl with | [_], _ => rfl
  have F1 := fun_mk (st := scheck_like_keys) l1 c1 k1
  have b1 := F1.binds (ps := ["first", "second"]) fun _ _ _ _ _ _ us hl => match us, hl with | [_, _], _ => rfl
  have F2 := fun_mk (st := spairs_in) l2 c2 k2
  have b2 := F2.binds (ps := ["order"]) fun _ _ _ _ _ _ us hl => match us, hl with | [_], _ => rfl
  have F3 := fun_mk (st := scheck_list) l3 c3 k3
  have b3 := F3.binds (ps := ["order"]) fun _ _ _ _ _ _ us hl => match us, hl with | [_], _ => rfl
  have F4 := fun_mk (st := sswap_at) l4 c4 k4
  have b4 := F4.binds (ps := ["order", "index"]) fun _ _ _ _ _ _ us hl => match us, hl with | [_, _], _ => rfl
  have F5 := fun_mk (st := sdiffering_pairs) l5 c5 k5
  have b5 := F5.binds (ps := ["first", "second"]) fun _ _ _ _ _ _ us hl => match us, hl with | [_, _], _ => rfl
  have F6 := fun_mk (st := sstraight_swaps) l6 c6 k6
  have b6 := F6.binds (ps := ["first", "second"]) fun _ _ _ _ _ _ us hl => match us, hl with | [_, _], _ => rfl
  have F7 := fun_mk (st := scheck_two_lists) l7 c7 k7
  have b7 := F7.binds (ps := ["first", "second"]) fun _ _ _ _ _ _ us hl => match us, hl with | [_, _], _ => rfl
  have F8 := fun_mk (st := sfirst_turned) l8 c8 k8
  have b8 := F8.binds (ps := ["order", "goal"]) fun _ _ _ _ _ _ us hl => match us, hl with | [_, _], _ => rfl
  have F9 := fun_mk (st := s_law_box) l9 c9 k9
  have b9 := F9.binds (ps := ["script"]) fun _ _ _ _ _ _ us hl => match us, hl with | [_], _ => rfl
  have F10 := fun_mk (st := s_law_take) l10 c10 k10
  have b10 := F10.binds (ps := ["box", "size"]) fun _ _ _ _ _ _ us hl => match us, hl with | [_, _], _ => rfl
  have F11 := fun_mk (st := s_law_keys) l11 c11 k11
  have b11 := F11.binds (ps := ["box", "count"]) fun _ _ _ _ _ _ us hl => match us, hl with | [_, _], _ => rfl
  have F12 := fun_mk (st := s_law_order) l12 c12 k12
  have b12 := F12.binds (ps := ["box", "keys"]) fun _ _ _ _ _ _ us hl => match us, hl with | [_, _], _ => rfl
  have F13 := fun_mk (st := s_law_int) l13 c13 k13
  have b13 := F13.binds (ps := ["value"]) fun _ _ _ _ _ _ us hl => match us, hl with | [_], _ => rfl
  have F14 := fun_mk (st := s_law_ints) l14 c14 k14
  have b14 := F14.binds (ps := ["told", "due"]) fun _ _ _ _ _ _ us hl => match us, hl with | [_, _], _ => rfl
  have F15 := fun_mk (st := s_law_tuple) l15 c15 k15
  have b15 := F15.binds (ps := ["told", "due"]) fun _ _ _ _ _ _ us hl => match us, hl with | [_, _], _ => rfl
  have F16 := fun_mk (st := s_law_tuples) l16 c16 k16
  have b16 := F16.binds (ps := ["told", "due"]) fun _ _ _ _ _ _ us hl => match us, hl with | [_, _], _ => rfl
  have F17 := fun_mk (st := s_law_widened) l17 c17 k17
  have b17 := F17.binds (ps := ["box", "keys"]) fun _ _ _ _ _ _ us hl => match us, hl with | [_, _], _ => rfl
  have F18 := fun_mk (st := s_law_wrong) l18 c18 k18
  have b18 := F18.binds (ps := ["order"]) fun _ _ _ _ _ _ us hl => match us, hl with | [_], _ => rfl
  have F19 := fun_mk (st := s_law_unlike) l19 c19 k19
  have b19 := F19.binds (ps := ["first", "second"]) fun _ _ _ _ _ _ us hl => match us, hl with | [_, _], _ => rfl
  have F20 := fun_mk (st := s_law_bent) l20 c20 k20
  have b20 := F20.binds (ps := ["box", "order"]) fun _ _ _ _ _ _ us hl => match us, hl with | [_, _], _ => rfl
  have F21 := fun_mk (st := s_law_exchanged) l21 c21 k21
  have b21 := F21.binds (ps := ["order", "place"]) fun _ _ _ _ _ _ us hl => match us, hl with | [_, _], _ => rfl
  have F22 := fun_mk (st := s_law_second) l22 c22 k22
  have b22 := F22.binds (ps := ["box", "first"]) fun _ _ _ _ _ _ us hl => match us, hl with | [_, _], _ => rfl
  have F23 := fun_mk (st := s_law_differing) l23 c23 k23
  have b23 := F23.binds (ps := ["first", "second"]) fun _ _ _ _ _ _ us hl => match us, hl with | [_, _], _ => rfl
  have F24 := fun_mk (st := s_law_straight) l24 c24 k24
  have b24 := F24.binds (ps := ["first", "second", "told"]) fun _ _ _ _ _ _ us hl => match us, hl with | [_, _, _], _ => rfl
  have F25 := fun_mk (st := s_law_ask) l25 c25 k25
  have b25 := F25.binds (ps := ["way", "first", "second", "index"]) fun _ _ _ _ _ _ us hl => match us, hl with | [_, _, _, _], _ => rfl
  have F26 := fun_mk (st := s_law_due) l26 c26 k26
  have b26 := F26.binds (ps := ["way", "first", "second", "index"]) fun _ _ _ _ _ _ us hl => match us, hl with | [_, _, _, _], _ => rfl
  have F27 := fun_mk (st := s_law_asked) l27 c27 k27
  have b27 := F27.binds (ps := ["way", "first", "second", "index"]) fun _ _ _ _ _ _ us hl => match us, hl with | [_, _, _, _], _ => rfl
  have F28 := fun_mk (st := slaw) l28 c28 k28
  have b28 := F28.binds (ps := ["script"]) fun _ _ _ _ _ _ us hl => match us, hl with | [_], _ => rfl
  have FI1 := fun_mk (st := sInit1) li1 ci1 ki1
  have bI1 := FI1.binds (ps := ["self", "place"]) fun _ _ _ _ _ _ us hl => match us, hl with | [_, _], _ => rfl
  have FI2 := fun_mk (st := sInit2) li2 ci2 ki2
  have bI2 := FI2.binds (ps := ["self", "key"]) fun _ _ _ _ _ _ us hl => match us, hl with | [_, _], _ => rfl
  have FI3 := fun_mk (st := sInit3) li3 ci3 ki3
  have bI3 := FI3.binds (ps := ["self", "step"]) fun _ _ _ _ _ _ us hl => match us, hl with | [_, _], _ => rfl
  let cA : Nat → Addr := fun n => [C0, C1, C2, C3].getD n 0
  let ad : Nat → Addr := fun n => [f0, f1, f2, f3, f4, f5, f6, f7, f8, f9, f10, f11, f12, f13, f14, f15, f16, f17, f18, f19, f20, f21, f22, f23, f24, f25, f26, f27, fa].getD n 0
  let aI : Nat → Addr := fun n => [0, fI1, fI2, fI3].getD n 0
  let fdv : Nat → FuncData := fun n => [(PySem.W.fnOf "first_wrong_place" "first_wrong_place" (defArgs sfirst_wrong_place) (defBody sfirst_wrong_place) (defScope sfirst_wrong_place) .none kV0 dc0 pm0 an0 cd0 ct0), (PySem.W.fnOf "check_like_keys" "check_like_keys" (defArgs scheck_like_keys) (defBody scheck_like_keys) (defScope scheck_like_keys) .none kV1 dc1 pm1 an1 cd1 ct1), (PySem.W.fnOf "pairs_in" "pairs_in" (defArgs spairs_in) (defBody spairs_in) (defScope spairs_in) .none kV2 dc2 pm2 an2 cd2 ct2), (PySem.W.fnOf "check_list" "check_list" (defArgs scheck_list) (defBody scheck_list) (defScope scheck_list) .none kV3 dc3 pm3 an3 cd3 ct3), (PySem.W.fnOf "swap_at" "swap_at" (defArgs sswap_at) (defBody sswap_at) (defScope sswap_at) .none kV4 dc4 pm4 an4 cd4 ct4), (PySem.W.fnOf "differing_pairs" "differing_pairs" (defArgs sdiffering_pairs) (defBody sdiffering_pairs) (defScope sdiffering_pairs) .none kV5 dc5 pm5 an5 cd5 ct5), (PySem.W.fnOf "straight_swaps" "straight_swaps" (defArgs sstraight_swaps) (defBody sstraight_swaps) (defScope sstraight_swaps) .none kV6 dc6 pm6 an6 cd6 ct6), (PySem.W.fnOf "check_two_lists" "check_two_lists" (defArgs scheck_two_lists) (defBody scheck_two_lists) (defScope scheck_two_lists) .none kV7 dc7 pm7 an7 cd7 ct7), (PySem.W.fnOf "first_turned" "first_turned" (defArgs sfirst_turned) (defBody sfirst_turned) (defScope sfirst_turned) .none kV8 dc8 pm8 an8 cd8 ct8), (PySem.W.fnOf "_law_box" "_law_box" (defArgs s_law_box) (defBody s_law_box) (defScope s_law_box) .none kV9 dc9 pm9 an9 cd9 ct9), (PySem.W.fnOf "_law_take" "_law_take" (defArgs s_law_take) (defBody s_law_take) (defScope s_law_take) .none kV10 dc10 pm10 an10 cd10 ct10), (PySem.W.fnOf "_law_keys" "_law_keys" (defArgs s_law_keys) (defBody s_law_keys) (defScope s_law_keys) .none kV11 dc11 pm11 an11 cd11 ct11), (PySem.W.fnOf "_law_order" "_law_order" (defArgs s_law_order) (defBody s_law_order) (defScope s_law_order) .none kV12 dc12 pm12 an12 cd12 ct12), (PySem.W.fnOf "_law_int" "_law_int" (defArgs s_law_int) (defBody s_law_int) (defScope s_law_int) .none kV13 dc13 pm13 an13 cd13 ct13), (PySem.W.fnOf "_law_ints" "_law_ints" (defArgs s_law_ints) (defBody s_law_ints) (defScope s_law_ints) .none kV14 dc14 pm14 an14 cd14 ct14), (PySem.W.fnOf "_law_tuple" "_law_tuple" (defArgs s_law_tuple) (defBody s_law_tuple) (defScope s_law_tuple) .none kV15 dc15 pm15 an15 cd15 ct15), (PySem.W.fnOf "_law_tuples" "_law_tuples" (defArgs s_law_tuples) (defBody s_law_tuples) (defScope s_law_tuples) .none kV16 dc16 pm16 an16 cd16 ct16), (PySem.W.fnOf "_law_widened" "_law_widened" (defArgs s_law_widened) (defBody s_law_widened) (defScope s_law_widened) .none kV17 dc17 pm17 an17 cd17 ct17), (PySem.W.fnOf "_law_wrong" "_law_wrong" (defArgs s_law_wrong) (defBody s_law_wrong) (defScope s_law_wrong) .none kV18 dc18 pm18 an18 cd18 ct18), (PySem.W.fnOf "_law_unlike" "_law_unlike" (defArgs s_law_unlike) (defBody s_law_unlike) (defScope s_law_unlike) .none kV19 dc19 pm19 an19 cd19 ct19), (PySem.W.fnOf "_law_bent" "_law_bent" (defArgs s_law_bent) (defBody s_law_bent) (defScope s_law_bent) .none kV20 dc20 pm20 an20 cd20 ct20), (PySem.W.fnOf "_law_exchanged" "_law_exchanged" (defArgs s_law_exchanged) (defBody s_law_exchanged) (defScope s_law_exchanged) .none kV21 dc21 pm21 an21 cd21 ct21), (PySem.W.fnOf "_law_second" "_law_second" (defArgs s_law_second) (defBody s_law_second) (defScope s_law_second) .none kV22 dc22 pm22 an22 cd22 ct22), (PySem.W.fnOf "_law_differing" "_law_differing" (defArgs s_law_differing) (defBody s_law_differing) (defScope s_law_differing) .none kV23 dc23 pm23 an23 cd23 ct23), (PySem.W.fnOf "_law_straight" "_law_straight" (defArgs s_law_straight) (defBody s_law_straight) (defScope s_law_straight) .none kV24 dc24 pm24 an24 cd24 ct24), (PySem.W.fnOf "_law_ask" "_law_ask" (defArgs s_law_ask) (defBody s_law_ask) (defScope s_law_ask) .none kV25 dc25 pm25 an25 cd25 ct25), (PySem.W.fnOf "_law_due" "_law_due" (defArgs s_law_due) (defBody s_law_due) (defScope s_law_due) .none kV26 dc26 pm26 an26 cd26 ct26), (PySem.W.fnOf "_law_asked" "_law_asked" (defArgs s_law_asked) (defBody s_law_asked) (defScope s_law_asked) .none kV27 dc27 pm27 an27 cd27 ct27), (PySem.W.fnOf "law" "law" (defArgs slaw) (defBody slaw) (defScope slaw) .none kV28 dc28 pm28 an28 cd28 ct28)].getD n (PySem.W.fnOf "first_wrong_place" "first_wrong_place" (defArgs sfirst_wrong_place) (defBody sfirst_wrong_place) (defScope sfirst_wrong_place) .none kV0 dc0 pm0 an0 cd0 ct0)
  let fdI : Nat → FuncData := fun n => [(PySem.W.fnOf "first_wrong_place" "first_wrong_place" (defArgs sfirst_wrong_place) (defBody sfirst_wrong_place) (defScope sfirst_wrong_place) .none kV0 dc0 pm0 an0 cd0 ct0), (PySem.W.fnOf "__init__" "InvalidList.__init__" (defArgs sInit1) (defBody sInit1) (defScope sInit1) .none kVI1 dcI1 pmI1 anI1 cdI1 ctI1), (PySem.W.fnOf "__init__" "UnlikeKeys.__init__" (defArgs sInit2) (defBody sInit2) (defScope sInit2) .none kVI2 dcI2 pmI2 anI2 cdI2 ctI2), (PySem.W.fnOf "__init__" "InvalidSwap.__init__" (defArgs sInit3) (defBody sInit3) (defScope sInit3) .none kVI3 dcI3 pmI3 anI3 cdI3 ctI3)].getD n (PySem.W.fnOf "first_wrong_place" "first_wrong_place" (defArgs sfirst_wrong_place) (defBody sfirst_wrong_place) (defScope sfirst_wrong_place) .none kV0 dc0 pm0 an0 cd0 ct0)
  have V : Env K mg cA ad fdv aI fdI := {
    dfirst_wrong_place := ⟨F0, PySem.W.mg_of X G a0, b0⟩
    dcheck_like_keys := ⟨F1, PySem.W.mg_of X G a1, b1⟩
    dpairs_in := ⟨F2, PySem.W.mg_of X G a2, b2⟩
    dcheck_list := ⟨F3, PySem.W.mg_of X G a3, b3⟩
    dswap_at := ⟨F4, PySem.W.mg_of X G a4, b4⟩
    ddiffering_pairs := ⟨F5, PySem.W.mg_of X G a5, b5⟩
    dstraight_swaps := ⟨F6, PySem.W.mg_of X G a6, b6⟩
    dcheck_two_lists := ⟨F7, PySem.W.mg_of X G a7, b7⟩
    dfirst_turned := ⟨F8, PySem.W.mg_of X G a8, b8⟩
    d_law_box := ⟨F9, PySem.W.mg_of X G a9, b9⟩
    d_law_take := ⟨F10, PySem.W.mg_of X G a10, b10⟩
    d_law_keys := ⟨F11, PySem.W.mg_of X G a11, b11⟩
    d_law_order := ⟨F12, PySem.W.mg_of X G a12, b12⟩
    d_law_int := ⟨F13, PySem.W.mg_of X G a13, b13⟩
    d_law_ints := ⟨F14, PySem.W.mg_of X G a14, b14⟩
    d_law_tuple := ⟨F15, PySem.W.mg_of X G a15, b15⟩
    d_law_tuples := ⟨F16, PySem.W.mg_of X G a16, b16⟩
    d_law_widened := ⟨F17, PySem.W.mg_of X G a17, b17⟩
    d_law_wrong := ⟨F18, PySem.W.mg_of X G a18, b18⟩
    d_law_unlike := ⟨F19, PySem.W.mg_of X G a19, b19⟩
    d_law_bent := ⟨F20, PySem.W.mg_of X G a20, b20⟩
    d_law_exchanged := ⟨F21, PySem.W.mg_of X G a21, b21⟩
    d_law_second := ⟨F22, PySem.W.mg_of X G a22, b22⟩
    d_law_differing := ⟨F23, PySem.W.mg_of X G a23, b23⟩
    d_law_straight := ⟨F24, PySem.W.mg_of X G a24, b24⟩
    d_law_ask := ⟨F25, PySem.W.mg_of X G a25, b25⟩
    d_law_due := ⟨F26, PySem.W.mg_of X G a26, b26⟩
    d_law_asked := ⟨F27, PySem.W.mg_of X G a27, b27⟩
    dlaw := ⟨F28, PySem.W.mg_of X G a28, b28⟩
    m0 := PySem.W.mg_of X G ac0
    c1 := ⟨⟨⟨_, _, _, _, _, _, _, _, _, _, _, _, _, _, _, xl1, rv1⟩, sa1, eC1, tC1, kC1⟩, ai1, ti1, FI1, bI1, PySem.W.mg_of X G ac1, nf1, ⟨ga1, gg1, eC1, hC1⟩, ⟨cl1, ga1, gg1, eC1, kc1, ob1⟩⟩
    c2 := ⟨⟨⟨_, _, _, _, _, _, _, _, _, _, _, _, _, _, _, xl2, rv2⟩, sa2, eC2, tC2, kC2⟩, ai2, ti2, FI2, bI2, PySem.W.mg_of X G ac2, nf2, ⟨ga2, gg2, eC2, hC2⟩, ⟨cl2, ga2, gg2, eC2, kc2, ob2⟩⟩
    c3 := ⟨⟨⟨_, _, _, _, _, _, _, _, _, _, _, _, _, _, _, xl3, rv3⟩, sa3, eC3, tC3, kC3⟩, ai3, ti3, FI3, bI3, PySem.W.mg_of X G ac3, nf3, ⟨ga3, gg3, eC3, hC3⟩, ⟨cl3, ga3, gg3, eC3, kc3, ob3⟩⟩
    z_ValueError := PySem.W.mg_none_of X G z_ValueError
    z_abs := PySem.W.mg_none_of X G z_abs
    z_all := PySem.W.mg_none_of X G z_all
    z_bool := PySem.W.mg_none_of X G z_bool
    z_enumerate := PySem.W.mg_none_of X G z_enumerate
    z_int := PySem.W.mg_none_of X G z_int
    z_isinstance := PySem.W.mg_none_of X G z_isinstance
    z_len := PySem.W.mg_none_of X G z_len
    z_list := PySem.W.mg_none_of X G z_list
    z_min := PySem.W.mg_none_of X G z_min
    z_range := PySem.W.mg_none_of X G z_range
    z_set := PySem.W.mg_none_of X G z_set
    z_sorted := PySem.W.mg_none_of X G z_sorted
    z_tuple := PySem.W.mg_none_of X G z_tuple
    g_MOST_KEYS := ⟨_, PySem.W.mg_of X G g_MOST_KEYS⟩
    g_GREATEST_KEY := ⟨_, PySem.W.mg_of X G g_GREATEST_KEY⟩
    xk := ⟨xkg, xkt⟩
    e1_1 := e1_1
    e1_2 := e1_2
    e1_3 := e1_3
    k1_0 := i1_0
    k1_1 := i1_1
    k1_2 := i1_2
    k1_3 := i1_3
    k1_ValueError := iv1
    e2_1 := e2_1
    e2_2 := e2_2
    e2_3 := e2_3
    k2_0 := i2_0
    k2_1 := i2_1
    k2_2 := i2_2
    k2_3 := i2_3
    k2_ValueError := iv2
    e3_1 := e3_1
    e3_2 := e3_2
    e3_3 := e3_3
    k3_0 := i3_0
    k3_1 := i3_1
    k3_2 := i3_2
    k3_3 := i3_3
    k3_ValueError := iv3
  }
  exact ⟨PySem.W.fnOf "law" "law" (defArgs slaw) (defBody slaw) (defScope slaw) .none kV28 dc28 pm28 an28 cd28 ct28, fun s v => .of_eq rfl, fun base _ _ => (oklaw (cA := cA) (ad := ad) (aI := aI) (fdv := fdv) (fdI := fdI) V).imp law_sp⟩
theorem walk {l : PySem.W.OpenLaw} {q : Program} {loose : List Str} {XP : (Str → Option Value) → Heap → Prop} {YP : World → Heap → Prop} {d : DefRec} {K : Params → PySem.W.Frag} (hn : l.most = some 63) (hdf : d.params.defaults = [])
    (hY : ∀ (w : World) (h : Heap), YP w h → (K w.params).In h)
    (F : ∀ (w : World) (mg : Str → Option Value) (fa : Addr) (h : Heap), (K w.params).In h → h.Ns mainGlobals mg → mg d.name = some (.ref fa) →
      ∃ fd : FuncData, (∀ (s : Shared) (u : Value), BindsTo s fd ⟨[u], []⟩ [("script", u)]) ∧ ∀ base : Heap, (K w.params).In base → base.Ns mainGlobals mg → FnOk l.prog w (K w.params) mg base (L2.CX l.prog w) 8 fa fd ["script"] (spLaw (K w.params))) :
    PySem.W.WalkO q loose XP YP l.row.toRowW d [] (fun f vs => PySem.call f vs) :=
  L2.walk_of (n := 63) (k := 8) (x := "script") (CX := fun w => L2.CX l.prog w) (sp := fun w => spLaw (K w.params)) hn (by decide) hdf ⟨rfl, by decide, by decide⟩ hY F (fun _ _ a ns hl _ hS => ⟨a, ns, rfl, hS, hl, fun _ => rfl⟩) fun _ _ _ _ _ z => by
    obtain ⟨_, _, _, _, _, _, _, _, _, _, _, _, w⟩ := z
    exact w
end Zk06
open PySem PySem.W PyProof.Rows in
set_option maxRecDepth 100000 in
set_option maxHeartbeats 0 in
theorem PySem.Challenge.cw_quorumdrift_k06_straight_lists_holds : PySem.Challenge.rw_quorumdrift_k06_straight_lists.Holds := by
  w_on; o_law; k_head; (case hw => w_witness2)
  k_fill
  refine Zk06.walk (l := PySem.Challenge.rw_quorumdrift_k06_straight_lists) rfl rfl (fun w h Y => PySem.W.kIn_of Y) ?F
  case F =>
    intro w mg fa h KX G hmg
    refine' Zk06.all_mk KX G hmg ?a0 ?l0 ?c0 ?k0 ?a1 ?l1 ?c1 ?k1 ?a2 ?l2 ?c2 ?k2 ?a3 ?l3 ?c3 ?k3 ?a4 ?l4 ?c4 ?k4 ?a5 ?l5 ?c5 ?k5 ?a6 ?l6 ?c6 ?k6 ?a7 ?l7 ?c7 ?k7 ?a8 ?l8 ?c8 ?k8 ?a9 ?l9 ?c9 ?k9 ?a10 ?l10 ?c10 ?k10 ?a11 ?l11 ?c11 ?k11 ?a12 ?l12 ?c12 ?k12 ?a13 ?l13 ?c13 ?k13 ?a14 ?l14 ?c14 ?k14 ?a15 ?l15 ?c15 ?k15 ?a16 ?l16 ?c16 ?k16 ?a17 ?l17 ?c17 ?k17 ?a18 ?l18 ?c18 ?k18 ?a19 ?l19 ?c19 ?k19 ?a20 ?l20 ?c20 ?k20 ?a21 ?l21 ?c21 ?k21 ?a22 ?l22 ?c22 ?k22 ?a23 ?l23 ?c23 ?k23 ?a24 ?l24 ?c24 ?k24 ?a25 ?l25 ?c25 ?k25 ?a26 ?l26 ?c26 ?k26 ?a27 ?l27 ?c27 ?k27 ?a28 ?l28 ?c28 ?k28 ?ac0 ?ac1 ?xl1 ?rv1 ?sa1 ?ga1 ?gg1 ?nf1 ?ai1 ?ti1 ?li1 ?ci1 ?ki1 ?kC1 ?eC1 ?tC1 ?hC1 ?cl1 ?kc1 ?ob1 ?ac2 ?xl2 ?rv2 ?sa2 ?ga2 ?gg2 ?nf2 ?ai2 ?ti2 ?li2 ?ci2 ?ki2 ?kC2 ?eC2 ?tC2 ?hC2 ?cl2 ?kc2 ?ob2 ?ac3 ?xl3 ?rv3 ?sa3 ?ga3 ?gg3 ?nf3 ?ai3 ?ti3 ?li3 ?ci3 ?ki3 ?kC3 ?eC3 ?tC3 ?hC3 ?cl3 ?kc3 ?ob3 ?xkg ?xkt ?e1_1 ?e1_2 ?e1_3 ?i1_0 ?i1_1 ?i1_2 ?i1_3 ?iv1 ?e2_1 ?e2_2 ?e2_3 ?i2_0 ?i2_1 ?i2_2 ?i2_3 ?iv2 ?e3_1 ?e3_2 ?e3_3 ?i3_0 ?i3_1 ?i3_2 ?i3_3 ?iv3 ?z_ValueError ?z_abs ?z_all ?z_bool ?z_enumerate ?z_int ?z_isinstance ?z_len ?z_list ?z_min ?z_range ?z_set ?z_sorted ?z_tuple ?g_MOST_KEYS ?g_GREATEST_KEY
    (case a0 => first | k_is | rfl | decide +kernel)
    (case l0 => first | k_is | rfl | decide +kernel)
    (case c0 => first | k_is | rfl | decide +kernel)
    (case k0 => first | k_is | rfl | decide +kernel)
    (case a1 => first | k_is | rfl | decide +kernel)
    (case l1 => first | k_is | rfl | decide +kernel)
    (case c1 => first | k_is | rfl | decide +kernel)
    (case k1 => first | k_is | rfl | decide +kernel)
    (case a2 => first | k_is | rfl | decide +kernel)
    (case l2 => first | k_is | rfl | decide +kernel)
    (case c2 => first | k_is | rfl | decide +kernel)
    (case k2 => first | k_is | rfl | decide +kernel)
    (case a3 => first | k_is | rfl | decide +kernel)
    (case l3 => first | k_is | rfl | decide +kernel)
    (case c3 => first | k_is | rfl | decide +kernel)
    (case k3 => first | k_is | rfl | decide +kernel)
    (case a4 => first | k_is | rfl | decide +kernel)
    (case l4 => first | k_is | rfl | decide +kernel)
    (case c4 => first | k_is | rfl | decide +kernel)
    (case k4 => first | k_is | rfl | decide +kernel)
    (case a5 => first | k_is | rfl | decide +kernel)
    (case l5 => first | k_is | rfl | decide +kernel)
    (case c5 => first | k_is | rfl | decide +kernel)
    (case k5 => first | k_is | rfl | decide +kernel)
    (case a6 => first | k_is | rfl | decide +kernel)
    (case l6 => first | k_is | rfl | decide +kernel)
    (case c6 => first | k_is | rfl | decide +kernel)
    (case k6 => first | k_is | rfl | decide +kernel)
    (case a7 => first | k_is | rfl | decide +kernel)
    (case l7 => first | k_is | rfl | decide +kernel)
    (case c7 => first | k_is | rfl | decide +kernel)
    (case k7 => first | k_is | rfl | decide +kernel)
    (case a8 => first | k_is | rfl | decide +kernel)
    (case l8 => first | k_is | rfl | decide +kernel)
    (case c8 => first | k_is | rfl | decide +kernel)
    (case k8 => first | k_is | rfl | decide +kernel)
    (case a9 => first | k_is | rfl | decide +kernel)
    (case l9 => first | k_is | rfl | decide +kernel)
    (case c9 => first | k_is | rfl | decide +kernel)
    (case k9 => first | k_is | rfl | decide +kernel)
    (case a10 => first | k_is | rfl | decide +kernel)
    (case l10 => first | k_is | rfl | decide +kernel)
    (case c10 => first | k_is | rfl | decide +kernel)
    (case k10 => first | k_is | rfl | decide +kernel)
    (case a11 => first | k_is | rfl | decide +kernel)
    (case l11 => first | k_is | rfl | decide +kernel)
    (case c11 => first | k_is | rfl | decide +kernel)
    (case k11 => first | k_is | rfl | decide +kernel)
    (case a12 => first | k_is | rfl | decide +kernel)
    (case l12 => first | k_is | rfl | decide +kernel)
    (case c12 => first | k_is | rfl | decide +kernel)
    (case k12 => first | k_is | rfl | decide +kernel)
    (case a13 => first | k_is | rfl | decide +kernel)
    (case l13 => first | k_is | rfl | decide +kernel)
    (case c13 => first | k_is | rfl | decide +kernel)
    (case k13 => first | k_is | rfl | decide +kernel)
    (case a14 => first | k_is | rfl | decide +kernel)
    (case l14 => first | k_is | rfl | decide +kernel)
    (case c14 => first | k_is | rfl | decide +kernel)
    (case k14 => first | k_is | rfl | decide +kernel)
    (case a15 => first | k_is | rfl | decide +kernel)
    (case l15 => first | k_is | rfl | decide +kernel)
    (case c15 => first | k_is | rfl | decide +kernel)
    (case k15 => first | k_is | rfl | decide +kernel)
    (case a16 => first | k_is | rfl | decide +kernel)
    (case l16 => first | k_is | rfl | decide +kernel)
    (case c16 => first | k_is | rfl | decide +kernel)
    (case k16 => first | k_is | rfl | decide +kernel)
    (case a17 => first | k_is | rfl | decide +kernel)
    (case l17 => first | k_is | rfl | decide +kernel)
    (case c17 => first | k_is | rfl | decide +kernel)
    (case k17 => first | k_is | rfl | decide +kernel)
    (case a18 => first | k_is | rfl | decide +kernel)
    (case l18 => first | k_is | rfl | decide +kernel)
    (case c18 => first | k_is | rfl | decide +kernel)
    (case k18 => first | k_is | rfl | decide +kernel)
    (case a19 => first | k_is | rfl | decide +kernel)
    (case l19 => first | k_is | rfl | decide +kernel)
    (case c19 => first | k_is | rfl | decide +kernel)
    (case k19 => first | k_is | rfl | decide +kernel)
    (case a20 => first | k_is | rfl | decide +kernel)
    (case l20 => first | k_is | rfl | decide +kernel)
    (case c20 => first | k_is | rfl | decide +kernel)
    (case k20 => first | k_is | rfl | decide +kernel)
    (case a21 => first | k_is | rfl | decide +kernel)
    (case l21 => first | k_is | rfl | decide +kernel)
    (case c21 => first | k_is | rfl | decide +kernel)
    (case k21 => first | k_is | rfl | decide +kernel)
    (case a22 => first | k_is | rfl | decide +kernel)
    (case l22 => first | k_is | rfl | decide +kernel)
    (case c22 => first | k_is | rfl | decide +kernel)
    (case k22 => first | k_is | rfl | decide +kernel)
    (case a23 => first | k_is | rfl | decide +kernel)
    (case l23 => first | k_is | rfl | decide +kernel)
    (case c23 => first | k_is | rfl | decide +kernel)
    (case k23 => first | k_is | rfl | decide +kernel)
    (case a24 => first | k_is | rfl | decide +kernel)
    (case l24 => first | k_is | rfl | decide +kernel)
    (case c24 => first | k_is | rfl | decide +kernel)
    (case k24 => first | k_is | rfl | decide +kernel)
    (case a25 => first | k_is | rfl | decide +kernel)
    (case l25 => first | k_is | rfl | decide +kernel)
    (case c25 => first | k_is | rfl | decide +kernel)
    (case k25 => first | k_is | rfl | decide +kernel)
    (case a26 => first | k_is | rfl | decide +kernel)
    (case l26 => first | k_is | rfl | decide +kernel)
    (case c26 => first | k_is | rfl | decide +kernel)
    (case k26 => first | k_is | rfl | decide +kernel)
    (case a27 => first | k_is | rfl | decide +kernel)
    (case l27 => first | k_is | rfl | decide +kernel)
    (case c27 => first | k_is | rfl | decide +kernel)
    (case k27 => first | k_is | rfl | decide +kernel)
    (case a28 => first | k_is | rfl | decide +kernel)
    (case l28 => first | k_is | rfl | decide +kernel)
    (case c28 => first | k_is | rfl | decide +kernel)
    (case k28 => first | k_is | rfl | decide +kernel)
    (case ac0 => first | k_is | rfl | decide +kernel)
    (case ac1 => first | k_is | rfl | decide +kernel)
    (case xl1 => first | k_is | rfl | decide +kernel)
    (case rv1 => first | k_is | rfl | decide +kernel)
    (case sa1 => first | k_is | rfl | decide +kernel)
    (case ga1 => first | k_is | rfl | decide +kernel)
    (case gg1 => first | k_is | rfl | decide +kernel)
    (case nf1 => first | k_is | rfl | decide +kernel)
    (case ai1 => first | k_is | rfl | decide +kernel)
    (case ti1 => first | k_is | rfl | decide +kernel)
    (case li1 => first | k_is | rfl | decide +kernel)
    (case ci1 => first | k_is | rfl | decide +kernel)
    (case ki1 => first | k_is | rfl | decide +kernel)
    (case kC1 => first | k_is | rfl | decide +kernel)
    (case eC1 => first | k_is | rfl | decide +kernel)
    (case tC1 => first | k_is | rfl | decide +kernel)
    (case hC1 => first | k_is | rfl | decide +kernel)
    (case cl1 => first | k_is | rfl | decide +kernel)
    (case kc1 => first | k_is | rfl | decide +kernel)
    (case ob1 => first | k_is | rfl | decide +kernel)
    (case ac2 => first | k_is | rfl | decide +kernel)
    (case xl2 => first | k_is | rfl | decide +kernel)
    (case rv2 => first | k_is | rfl | decide +kernel)
    (case sa2 => first | k_is | rfl | decide +kernel)
    (case ga2 => first | k_is | rfl | decide +kernel)
    (case gg2 => first | k_is | rfl | decide +kernel)
    (case nf2 => first | k_is | rfl | decide +kernel)
    (case ai2 => first | k_is | rfl | decide +kernel)
    (case ti2 => first | k_is | rfl | decide +kernel)
    (case li2 => first | k_is | rfl | decide +kernel)
    (case ci2 => first | k_is | rfl | decide +kernel)
    (case ki2 => first | k_is | rfl | decide +kernel)
    (case kC2 => first | k_is | rfl | decide +kernel)
    (case eC2 => first | k_is | rfl | decide +kernel)
    (case tC2 => first | k_is | rfl | decide +kernel)
    (case hC2 => first | k_is | rfl | decide +kernel)
    (case cl2 => first | k_is | rfl | decide +kernel)
    (case kc2 => first | k_is | rfl | decide +kernel)
    (case ob2 => first | k_is | rfl | decide +kernel)
    (case ac3 => first | k_is | rfl | decide +kernel)
    (case xl3 => first | k_is | rfl | decide +kernel)
    (case rv3 => first | k_is | rfl | decide +kernel)
    (case sa3 => first | k_is | rfl | decide +kernel)
    (case ga3 => first | k_is | rfl | decide +kernel)
    (case gg3 => first | k_is | rfl | decide +kernel)
    (case nf3 => first | k_is | rfl | decide +kernel)
    (case ai3 => first | k_is | rfl | decide +kernel)
    (case ti3 => first | k_is | rfl | decide +kernel)
    (case li3 => first | k_is | rfl | decide +kernel)
    (case ci3 => first | k_is | rfl | decide +kernel)
    (case ki3 => first | k_is | rfl | decide +kernel)
    (case kC3 => first | k_is | rfl | decide +kernel)
    (case eC3 => first | k_is | rfl | decide +kernel)
    (case tC3 => first | k_is | rfl | decide +kernel)
    (case hC3 => first | k_is | rfl | decide +kernel)
    (case cl3 => first | k_is | rfl | decide +kernel)
    (case kc3 => first | k_is | rfl | decide +kernel)
    (case ob3 => first | k_is | rfl | decide +kernel)
    (case xkg => first | k_is | rfl | decide +kernel)
    (case xkt => first | k_is | rfl | decide +kernel)
    (case e1_1 => first | k_is | rfl | decide +kernel)
    (case e1_2 => first | k_is | rfl | decide +kernel)
    (case e1_3 => first | k_is | rfl | decide +kernel)
    (case i1_0 => first | k_is | rfl | decide +kernel)
    (case i1_1 => first | k_is | rfl | decide +kernel)
    (case i1_2 => first | k_is | rfl | decide +kernel)
    (case i1_3 => first | k_is | rfl | decide +kernel)
    (case iv1 => first | k_is | rfl | decide +kernel)
    (case e2_1 => first | k_is | rfl | decide +kernel)
    (case e2_2 => first | k_is | rfl | decide +kernel)
    (case e2_3 => first | k_is | rfl | decide +kernel)
    (case i2_0 => first | k_is | rfl | decide +kernel)
    (case i2_1 => first | k_is | rfl | decide +kernel)
    (case i2_2 => first | k_is | rfl | decide +kernel)
    (case i2_3 => first | k_is | rfl | decide +kernel)
    (case iv2 => first | k_is | rfl | decide +kernel)
    (case e3_1 => first | k_is | rfl | decide +kernel)
    (case e3_2 => first | k_is | rfl | decide +kernel)
    (case e3_3 => first | k_is | rfl | decide +kernel)
    (case i3_0 => first | k_is | rfl | decide +kernel)
    (case i3_1 => first | k_is | rfl | decide +kernel)
    (case i3_2 => first | k_is | rfl | decide +kernel)
    (case i3_3 => first | k_is | rfl | decide +kernel)
    (case iv3 => first | k_is | rfl | decide +kernel)
    (case z_ValueError => first | k_is | rfl | decide +kernel)
    (case z_abs => first | k_is | rfl | decide +kernel)
    (case z_all => first | k_is | rfl | decide +kernel)
    (case z_bool => first | k_is | rfl | decide +kernel)
    (case z_enumerate => first | k_is | rfl | decide +kernel)
    (case z_int => first | k_is | rfl | decide +kernel)
    (case z_isinstance => first | k_is | rfl | decide +kernel)
    (case z_len => first | k_is | rfl | decide +kernel)
    (case z_list => first | k_is | rfl | decide +kernel)
    (case z_min => first | k_is | rfl | decide +kernel)
    (case z_range => first | k_is | rfl | decide +kernel)
    (case z_set => first | k_is | rfl | decide +kernel)
    (case z_sorted => first | k_is | rfl | decide +kernel)
    (case z_tuple => first | k_is | rfl | decide +kernel)
    (case g_MOST_KEYS => first | k_is | rfl | decide +kernel)
    (case g_GREATEST_KEY => first | k_is | rfl | decide +kernel)
end

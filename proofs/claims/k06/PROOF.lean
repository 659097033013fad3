import PyProof.Rows.All
import Wide.All
import OpenK.AllK
import Wide.FinOn
import Lean
import PyProof.EqAt
import PyProof.EqKinds
import PyProof.TupleCall
import PyProof.P3In
import KE.KDictLaws
import PySem.Challenge.RW_rootstamp_k06_a_clash
set_option Elab.async false
set_option linter.all false
set_option maxRecDepth 100000
set_option maxHeartbeats 4000000
namespace L2
open PySem PySem.Spec PyProof.Rows

abbrev Key := Sum Int Str
def keyIs : Key → Value → Bool
  | .inl k, v => Value.isInt k v
  | .inr x, v => Value.isStrOf x v
def keyH (w : World) : Key → Int
  | .inl k => hashInt k
  | .inr x => hashStr w x
theorem keyIs_shape : ∀ {k : Key} {v : Value}, keyIs k v = true → (∃ i t, k = Sum.inl i ∧ v = Value.int i t) ∨ (∃ x t, k = Sum.inr x ∧ v = Value.str x t)
  | .inl i, v, h => by
    obtain ⟨t, e⟩ := Value.isInt_shape (k := i) (v := v) h
    exact .inl ⟨i, t, rfl, e⟩
  | .inr x, v, h => by
    obtain ⟨t, e⟩ := Value.isStrOf_shape (x := x) (v := v) h
    exact .inr ⟨x, t, rfl, e⟩
theorem keyIs_int (i : Int) (t : Tok) : keyIs (.inl i) (.int i t) = true := by simp [keyIs, Value.isInt]
theorem keyIs_str (x : Str) (t : Tok) : keyIs (.inr x) (.str x t) = true := by simp [keyIs, Value.isStrOf]
theorem key_ll (a b : Int) : decide ((Sum.inl a : Key) = Sum.inl b) = (a == b) := by
  by_cases e : a = b
  · subst e; simp
  · have h : ¬ (Sum.inl a : Key) = Sum.inl b := fun q => e (Sum.inl.inj q)
    rw [decide_eq_false h]
    exact (beq_eq_false_iff_ne.mpr e).symm
theorem key_rr (a b : Str) : decide ((Sum.inr a : Key) = Sum.inr b) = decide (a = b) := by
  by_cases e : a = b
  · subst e; simp
  · have h : ¬ (Sum.inr a : Key) = Sum.inr b := fun q => e (Sum.inr.inj q)
    rw [decide_eq_false h, decide_eq_false e]
theorem key_lr (a : Int) (b : Str) : decide ((Sum.inl a : Key) = Sum.inr b) = false := decide_eq_false (fun q => nomatch q)
theorem key_rl (a : Str) (b : Int) : decide ((Sum.inr a : Key) = Sum.inl b) = false := decide_eq_false (fun q => nomatch q)

def mixKind (prog : Program) (w : World) : PySem.KeyKind prog w Key where
  is := keyIs
  hash := keyH w
  inj := fun v a b ha hb => by
    rcases keyIs_shape ha with ⟨i, t, rfl, rfl⟩ | ⟨x, t, rfl, rfl⟩
    · rcases keyIs_shape hb with ⟨j, u, rfl, e⟩ | ⟨y, u, rfl, e⟩
      · injection e with e1 _; rw [e1]
      · exact nomatch e
    · rcases keyIs_shape hb with ⟨j, u, rfl, e⟩ | ⟨y, u, rfl, e⟩
      · exact nomatch e
      · injection e with e1 _; rw [e1]
  byValue := fun k v h => by
    rcases keyIs_shape h with ⟨i, t, rfl, rfl⟩ | ⟨x, t, rfl, rfl⟩ <;> rfl
  pyHash := fun hv h => by
    rcases keyIs_shape hv with ⟨i, t, rfl, rfl⟩ | ⟨x, t, rfl, rfl⟩
    · exact wpAny_pyHash_int h
    · exact wpAny_pyHash_str h
  eqBool := fun hu hv h => by
    rcases keyIs_shape hu with ⟨i, t, rfl, rfl⟩ | ⟨x, t, rfl, rfl⟩
    · rcases keyIs_shape hv with ⟨j, u, rfl, rfl⟩ | ⟨y, u, rfl, rfl⟩
      · rw [key_ll] at h; exact wpAny_eqBool_int h
      · rw [key_lr] at h; exact SeqAt.EqAt.int_str i t y u _ _ _ _ h
    · rcases keyIs_shape hv with ⟨j, u, rfl, rfl⟩ | ⟨y, u, rfl, rfl⟩
      · rw [key_rl] at h; exact SeqAt.EqAt.str_int x t j u _ _ _ _ h
      · rw [key_rr] at h; exact wpAny_eqBool_str h
  «strs» := fun k x t v h => by
    rcases keyIs_shape h with ⟨i, u, rfl, e⟩ | ⟨y, u, rfl, e⟩
    · exact nomatch e
    · injection e with e1 _
      subst e1
      cases v <;> rfl

theorem mixKind_int (prog : Program) (w : World) (i : Int) (t : Tok) : (mixKind prog w).is (.inl i) (.int i t) = true := keyIs_int i t
theorem mixKind_str (prog : Program) (w : World) (x : Str) (t : Tok) : (mixKind prog w).is (.inr x) (.str x t) = true := keyIs_str x t
end L2

namespace L2
open PySem PySem.Spec PyProof.Rows

inductive V where
  | non | bl (b : Bool) | int (i : Int) | str (x : Str) | byt (b : Array UInt8) | flt (b : UInt64) | ref (a : Addr) | ty (n : String)
  deriving DecidableEq

def RelV : V → Value → Prop
  | .non, u => u = Value.none
  | .bl b, u => u = Value.bool b
  | .int i, u => ∃ t, u = Value.int i t
  | .str x, u => ∃ t, u = Value.str x t
  | .byt b, u => ∃ t, u = Value.bytes b t
  | .flt b, u => ∃ t, u = Value.float b t
  | .ref a, u => u = Value.ref a
  | .ty n, u => u = Value.type n

abbrev Vals : List V → List Value → Prop := Paired RelV
theorem Vals.length {xs : List V} {us : List Value} (r : Vals xs us) : xs.length = us.length := Paired.length r
theorem Vals.get : ∀ {xs : List V} {us : List Value} {i : Nat} {x : V}, Vals xs us → xs[i]? = some x → ∃ u, us[i]? = some u ∧ RelV x u
  | _, _, _, _, .nil, e => by simp at e
  | _, _, 0, _, .cons r _, e => by simp at e; subst e; exact ⟨_, rfl, r⟩
  | _, _, i + 1, x, .cons _ t, e => by
    obtain ⟨u, h1, h2⟩ := Vals.get (i := i) (x := x) t (by simpa using e)
    exact ⟨u, by simpa using h1, h2⟩
theorem Vals.set {x : V} {u : Value} (r : RelV x u) : ∀ {xs : List V} {us : List Value} (i : Nat), Vals xs us → Vals (xs.set i x) (us.set i u)
  | _, _, _, .nil => .nil
  | _, _, 0, .cons _ t => .cons r t
  | _, _, i + 1, .cons q t => .cons q (Vals.set r i t)
theorem Vals.append : ∀ {xs ys : List V} {us ws : List Value}, Vals xs us → Vals ys ws → Vals (xs ++ ys) (us ++ ws)
  | _, _, _, _, .nil, s => s
  | _, _, _, _, .cons r t, s => .cons r (Vals.append t s)
theorem Vals.take : ∀ {xs : List V} {us : List Value} (n : Nat), Vals xs us → Vals (xs.take n) (us.take n)
  | _, _, 0, _ => .nil
  | _, _, _ + 1, .nil => .nil
  | _, _, n + 1, .cons r t => .cons r (Vals.take n t)
theorem Vals.drop : ∀ {xs : List V} {us : List Value} (n : Nat), Vals xs us → Vals (xs.drop n) (us.drop n)
  | _, _, 0, r => r
  | _, _, _ + 1, .nil => .nil
  | _, _, n + 1, .cons _ t => Vals.drop n t
theorem Vals.none_of : ∀ {xs : List V} {us : List Value} {i : Nat}, Vals xs us → xs[i]? = none → us[i]? = none := fun {xs us i} r e => by
  have h1 := r.length
  have h2 : xs.length ≤ i := List.getElem?_eq_none_iff.mp e
  exact List.getElem?_eq_none_iff.mpr (by omega)

def RelO : Option V → Option Value → Prop
  | some v, some u => RelV v u
  | none, none => True
  | _, _ => False
def KV {κ : Type} : List (κ × V) → List (κ × Value) → Prop := Paired fun (p : κ × V) (q : κ × Value) => p.1 = q.1 ∧ RelV p.2 q.2

def kV : Key → V
  | .inl i => .int i
  | .inr x => .str x

inductive HO where
  /-- a list -/
  | lst (xs : List V)
  /-- a tuple (never changes) -/
  | tup (xs : List V)
  /-- a dict whose keys are ints and texts; one whose keys are tuples of ints and texts (the empty one is both) -/
  | dK (kvs : List (Key × V)) | dT (kvs : List (List Key × V))
  /-- a set of ints: its members, its size -/
  | set (S : Int → Bool) (n : Nat)
  /-- an instance of the class at C, its dict at dx, its attributes -/
  | ins (C dx : Addr) (fs : List (Str × V))
  /-- the dict of the instance at x -/
  | own (x : Addr)
  /-- the dict of an exception -/
  | xd (fs : List (Str × V))
  /-- a bound method, f of x -/
  | met (f x : Addr)
  /-- a range object lo, lo + 1, .. below hi -/
  | rng (lo hi : Int)
  /-- a thing that is known to the object (the script; a dict while a loop walks it): read, never written while it is so -/
  | frz (o : Obj) (u : HO)
  /-- a code object's table -/
  | tbl (ps : Array Value)
  /-- any other thing, by what is true of its one object (a def of one's own: SetO a S n := HO.ext fun h => ..) -/
  | ext (φ : Heap → Prop)

abbrev Hp := Addr → Option HO
def upd (H : Hp) (a : Addr) (o : HO) : Hp := fun b => if b = a then some o else H b
theorem upd_same {H : Hp} {a : Addr} {o : HO} : upd H a o a = some o := by unfold upd; rw [if_pos rfl]
theorem upd_ne {H : Hp} {a b : Addr} {o : HO} (h : b ≠ a) : upd H a o b = H b := by unfold upd; rw [if_neg h]
theorem ne_of {H : Hp} {a b : Addr} {o u : HO} (h : H a = some o) (h' : H b = some u) (d : o ≠ u) : a ≠ b := by
  intro e; subst e; rw [h] at h'; exact d (Option.some.inj h')
theorem ne_of_none {H : Hp} {a b : Addr} {o : HO} (h : H a = some o) (h' : H b = none) : a ≠ b := by
  intro e; subst e; rw [h] at h'; cases h'

section
variable (P : Program) (w : World)
def ObjOk (H : Hp) (h : Heap) (a : Addr) : HO → Prop
  | .lst xs => xs.length ≤ sizeLine ∧ ∃ (its : List Value) (n : Nat), Vals xs its ∧ h.get? a = some { cls := .type "list", data := .seq its.toArray n }
  | .tup xs => xs.length ≤ sizeLine ∧ ∃ its : List Value, Vals xs its ∧ IsTup h a its.toArray
  | .dK kvs => kvs.length ≤ sizeLine ∧ (a == sysModules) = false ∧ ∃ vs, KV kvs vs ∧ h.DictOf (mixKind P w) a vs
  | .dT kvs => kvs.length ≤ sizeLine ∧ (a == sysModules) = false ∧ ∃ xs : List (List Key × Addr × Value),
      Paired (fun (p : List Key × V) (q : List Key × Addr × Value) => p.1 = q.1 ∧ H q.2.1 = some (.tup (p.1.map kV)) ∧ RelV p.2 q.2.2) kvs xs ∧
      ∃ o es ep, h.get? a = some o ∧ o.ExactDict ∧ o.data = .dict es ep ∧ es.toList = xs.map (entryOfKey (tupleKind (mixKind P w))) ∧ (xs.map (·.1)).Nodup
  | .set S n => h.SetOf (intKind P w) a S n
  | .ins C dx fs => H dx = some (.own a) ∧ fs.length ≤ 1000 ∧ dx ≠ a ∧ h.get? a = some (PySem.W.instObj C dx) ∧
      ∃ mA, h.Ns1 dx mA ∧ (∀ f, RelO (fs.lookup f) (mA f)) ∧ PySem.Within mA (fs.map (·.1))
  | .own _ => ∃ o, h.get? a = some o
  | .xd fs => ∃ mA, h.Ns1 a mA ∧ ∀ f, RelO (fs.lookup f) (mA f)
  | .rng lo hi => ∃ t u v, h.get? a = some { cls := .type "range", data := .fields #[.int lo t, .int hi u, .int 1 v] }
  | .frz o u => h.get? a = some o ∧ ObjOk H h a u
  | .tbl ps => h.get? a = some { cls := .none, data := .fields ps }
  | .met f x => h.get? a = some (PySem.W.methodObj (.ref f) (.ref x))
  | .ext φ => φ h ∧ (∃ o, h.get? a = some o) ∧ ∀ h1 h2 : Heap, φ h1 → (∀ o, h1.get? a = some o → h2.get? a = some o) → φ h2
def HOk (H : Hp) (h : Heap) : Prop := ∀ a o, H a = some o → ObjOk P w H h a o
end

section
variable {P : Program} {w : World} {H H' : Hp} {h h' : Heap} {a : Addr} {o : HO}
theorem ObjOk.lt (x : ObjOk P w H h a o) : a < h.objs.size := by
  cases o with
  | lst xs => obtain ⟨_, _, _, _, e⟩ := x; exact Heap.lt_size e
  | tup xs => obtain ⟨_, _, _, p⟩ := x; exact p.lt
  | dK kvs => obtain ⟨_, _, _, _, o, _, _, e, _⟩ := x; exact Heap.lt_size e
  | dT kvs => obtain ⟨_, _, _, _, o, _, _, e, _⟩ := x; exact Heap.lt_size e
  | set S n => obtain ⟨o, _, _, _, e, _⟩ := x; exact Heap.lt_size e
  | ins C dx fs => obtain ⟨_, _, _, e, _⟩ := x; exact Heap.lt_size e
  | own y => obtain ⟨_, e⟩ := x; exact Heap.lt_size e
  | xd fs => obtain ⟨_, ⟨_, _, _, e, _⟩, _⟩ := x; exact Heap.lt_size e
  | rng lo hi => obtain ⟨_, _, _, e⟩ := x; exact Heap.lt_size e
  | frz ob u => obtain ⟨e, _⟩ := x; exact Heap.lt_size e
  | tbl ps => exact Heap.lt_size (show h.get? a = some _ from x)
  | met f y => exact Heap.lt_size (show h.get? a = some _ from x)
  | ext φ => obtain ⟨_, ⟨_, e⟩, _⟩ := x; exact Heap.lt_size e
theorem Paired.mapP {α β : Type} {F G : α → β → Prop} : ∀ {l₁ : List α} {l₂ : List β}, Paired F l₁ l₂ → (∀ a b, F a b → G a b) → Paired G l₁ l₂
  | _, _, .nil, _ => .nil
  | _, _, .cons r t, f => .cons (f _ _ r) (Paired.mapP t f)
theorem Paired.imp' {α β : Type} {F G : α → β → Prop} (f : ∀ a b, F a b → G a b) {l₁ : List α} {l₂ : List β} (r : Paired F l₁ l₂) : Paired G l₁ l₂ := Paired.mapP r f
theorem ObjOk.stay (x : ObjOk P w H h a o) (k : ∀ b u, (b = a ∨ H b = some (.own a)) → h.get? b = some u → h'.get? b = some u)
    (ho : ∀ b, H b = some (.own a) → H' b = some (.own a)) (ht : ∀ b xs, H b = some (.tup xs) → H' b = some (.tup xs)) : ObjOk P w H' h' a o := by
  induction o with
  | lst xs => obtain ⟨z, its, n, r, e⟩ := x; exact ⟨z, its, n, r, k _ _ (.inl rfl) e⟩
  | tup xs => obtain ⟨z, its, r, ob, e, c⟩ := x; exact ⟨z, its, r, ob, k _ _ (.inl rfl) e, c⟩
  | dK kvs => obtain ⟨z, y, vs, r, ob, es, ep, e, c⟩ := x; exact ⟨z, y, vs, r, ob, es, ep, k _ _ (.inl rfl) e, c⟩
  | dT kvs =>
    obtain ⟨z, y, xs, r, ob, es, ep, e, c⟩ := x
    exact ⟨z, y, xs, Paired.mapP r fun p q z => ⟨z.1, ht _ _ z.2.1, z.2.2⟩, ob, es, ep, k _ _ (.inl rfl) e, c⟩
  | set S n => obtain ⟨ob, es, ep, t, e, c⟩ := x; exact ⟨ob, es, ep, t, k _ _ (.inl rfl) e, c⟩
  | ins C dx fs =>
    obtain ⟨d, z, ne, e, mA, ⟨od, es, ep, e2, c⟩, r⟩ := x
    exact ⟨ho _ d, z, ne, k _ _ (.inl rfl) e, mA, ⟨od, es, ep, k _ _ (.inr d) e2, c⟩, r⟩
  | own y => obtain ⟨ob, e⟩ := x; exact ⟨ob, k _ _ (.inl rfl) e⟩
  | xd fs => obtain ⟨mA, ⟨od, es, ep, e, c⟩, r⟩ := x; exact ⟨mA, ⟨od, es, ep, k _ _ (.inl rfl) e, c⟩, r⟩
  | rng lo hi => obtain ⟨t, u, v, e⟩ := x; exact ⟨t, u, v, k _ _ (.inl rfl) e⟩
  | frz ob u ih => obtain ⟨e, q⟩ := x; exact ⟨k _ _ (.inl rfl) e, ih q⟩
  | tbl ps =>
    have e : h.get? a = some { cls := .none, data := .fields ps } := x
    show h'.get? a = some { cls := .none, data := .fields ps }
    exact k a _ (.inl rfl) e
  | met f y =>
    have e : h.get? a = some (PySem.W.methodObj (.ref f) (.ref y)) := x
    show h'.get? a = some (PySem.W.methodObj (.ref f) (.ref y))
    exact k a _ (.inl rfl) e
  | ext φ => obtain ⟨p, ⟨o, e⟩, st⟩ := x; exact ⟨st _ _ p fun o q => k _ _ (.inl rfl) q, ⟨o, k _ _ (.inl rfl) e⟩, st⟩
theorem HOk.lt (x : HOk P w H h) (e : H a = some o) : a < h.objs.size := (x a o e).lt
theorem HOk.fresh (x : HOk P w H h) (e : h.objs.size ≤ a) : H a = none := by
  cases q : H a with
  | none => rfl
  | some u => exact absurd (Nat.lt_of_lt_of_le (x.lt q) e) (Nat.lt_irrefl _)
theorem HOk.kept (x : HOk P w H h) (k : ∀ b u, h.get? b = some u → h'.get? b = some u) : HOk P w H h' := fun a o e =>
  (x a o e).stay (fun b u _ q => k b u q) (fun _ q => q) fun _ _ q => q
theorem HOk.laid (x : HOk P w H h) (k : ∀ b u, h.get? b = some u → h'.get? b = some u) (hp : h.objs.size ≤ a) (new : ObjOk P w (upd H a o) h' a o) : HOk P w (upd H a o) h' := fun b u e => by
  have hn := x.fresh hp
  by_cases hb : b = a
  · subst hb; rw [upd_same] at e; cases e; exact new
  · rw [upd_ne hb] at e
    exact (x b u e).stay (fun c v _ q => k c v q) (fun c q => by rw [upd_ne (ne_of_none q hn)]; exact q) fun c xs q => by rw [upd_ne (ne_of_none q hn)]; exact q
end

def Rd (H : Hp) (a : Addr) (u : HO) : Prop := H a = some u ∨ ∃ o, H a = some (.frz o u)
theorem Rd.of {H : Hp} {a : Addr} {u : HO} (h : H a = some u) : Rd H a u := .inl h
theorem Rd.ok {P : Program} {w : World} {H : Hp} {h : Heap} {a : Addr} {u : HO} (r : Rd H a u) (x : HOk P w H h) : ObjOk P w H h a u := by
  rcases r with r | ⟨o, r⟩
  · exact x a u r
  · obtain ⟨_, q⟩ := x a _ r
    exact q
def Mut : Option HO → Prop
  | some (.lst _) => True
  | some (.dK _) => True
  | some (.dT _) => True
  | some (.set _ _) => True
  | some (.ins _ _ _) => True
  | some (.ext _) => True
  | _ => False
section
variable {P : Program} {w : World} {H : Hp} {h h' : Heap} {x e : Addr} {o' : HO}
theorem HOk.write (ok : HOk P w H h) (mu : Mut (H x)) (he : e = x ∨ H e = some (.own x)) (k : ∀ b u, b ≠ e → h.get? b = some u → h'.get? b = some u) (heo : ∃ u, h'.get? e = some u)
    (new : ObjOk P w (upd H x o') h' x o') : HOk P w (upd H x o') h' := fun b u q => by
  have nown : ∀ c y, H c = some (.own y) → c ≠ x := fun c y r z => by subst z; rw [r] at mu; exact mu
  have ntup : ∀ c xs, H c = some (.tup xs) → c ≠ x := fun c xs r z => by subst z; rw [r] at mu; exact mu
  by_cases hb : b = x
  · subst hb; rw [upd_same] at q; cases q; exact new
  · rw [upd_ne hb] at q
    by_cases hbe : b = e
    · have q' : H b = some (.own x) := by
        rcases he with z | z
        · exact absurd (hbe.trans z) hb
        · rw [hbe]; exact z
      rw [q] at q'; cases q'
      obtain ⟨v, hv⟩ := heo
      exact ⟨v, by rw [hbe]; exact hv⟩
    · refine (ok b u q).stay (fun c v hc r => k c v ?_ r) (fun c r => by rw [upd_ne (nown c b r)]; exact r) fun c xs r => by rw [upd_ne (ntup c xs r)]; exact r
      rcases hc with rfl | hc
      · exact hbe
      · rintro rfl
        rcases he with z | z
        · exact nown c b hc z
        · rw [hc] at z; cases z; exact hb rfl
end

structure Un (fs ex : List Addr) (H H' : Hp) (h h' : Heap) : Prop where
  keep : ∀ b o, h.get? b = some o → H b = none → b ∉ fs → b ∉ ex → h'.get? b = some o
  slot : ∀ b o, h.get? b = some o → H b = none → b ∈ fs → b ∉ ex → ∃ sl, h'.get? b = some { o with slots := sl }
  free : ∀ b o, h.get? b = some o → H b = none → b ∉ ex → H' b = none
  there : ∀ b o, h.get? b = some o → b ∉ ex → ∃ o', h'.get? b = some o'
  tups : ∀ b xs, H b = some (.tup xs) → H' b = some (.tup xs)
  frzs : ∀ b o u, H b = some (.frz o u) → H' b = some (.frz o u)
  tbls : ∀ b ps, H b = some (.tbl ps) → ∃ more, H' b = some (.tbl (ps ++ more))
section
variable {fs fs' ex ex' : List Addr} {H H1 H2 : Hp} {h h1 h2 h' : Heap} {a x e : Addr} {o : HO}
theorem Un.any (u : Un fs ex H H1 h h1) {b : Addr} {ob : Obj} (q : h.get? b = some ob) (n : H b = none) (hx : b ∉ ex) : ∃ sl, h1.get? b = some { ob with slots := sl } := by
  by_cases hb : b ∈ fs
  · exact u.slot b ob q n hb hx
  · exact ⟨ob.slots, u.keep b ob q n hb hx⟩
theorem Un.trans (a : Un fs ex H H1 h h1) (b : Un fs ex H1 H2 h1 h2) : Un fs ex H H2 h h2 where
  keep := fun c ob q n hc hx => b.keep c ob (a.keep c ob q n hc hx) (a.free c ob q n hx) hc hx
  slot := fun c ob q n hc hx => by
    obtain ⟨sl, e1⟩ := a.slot c ob q n hc hx
    obtain ⟨sl', e2⟩ := b.slot c _ e1 (a.free c ob q n hx) hc hx
    exact ⟨sl', e2⟩
  free := fun c ob q n hx => by
    obtain ⟨o', e1⟩ := a.there c ob q hx
    exact b.free c o' e1 (a.free c ob q n hx) hx
  there := fun c ob q hx => by
    obtain ⟨o', e1⟩ := a.there c ob q hx
    exact b.there c o' e1 hx
  tups := fun c xs q => b.tups c xs (a.tups c xs q)
  frzs := fun c ob xs q => b.frzs c ob xs (a.frzs c ob xs q)
  tbls := fun c ps q => by
    obtain ⟨m1, e1⟩ := a.tbls c ps q
    obtain ⟨m2, e2⟩ := b.tbls c _ e1
    exact ⟨m1 ++ m2, by rw [e2, Array.append_assoc]⟩
theorem Un.kept (k : ∀ b u, h.get? b = some u → h'.get? b = some u) : Un fs ex H H h h' :=
  ⟨fun b ob q _ _ _ => k b ob q, fun b ob q _ _ _ => ⟨ob.slots, k b ob q⟩, fun _ _ _ n _ => n, fun b ob q _ => ⟨ob, k b ob q⟩, fun _ _ q => q, fun _ _ _ q => q, fun _ ps q => ⟨#[], by rw [q]; simp⟩⟩
theorem Un.refl : Un fs ex H H h h := Un.kept fun _ _ q => q
theorem Un.laid (k : ∀ b u, h.get? b = some u → h'.get? b = some u) (hp : h.objs.size ≤ a) (hn : H a = none) : Un fs ex H (upd H a o) h h' where
  keep := fun b u q _ _ _ => k b u q
  slot := fun b u q _ _ _ => ⟨u.slots, k b u q⟩
  free := fun b u q n _ => by rw [upd_ne (Nat.ne_of_lt (Nat.lt_of_lt_of_le (Heap.lt_size q) hp))]; exact n
  there := fun b u q _ => ⟨u, k b u q⟩
  tups := fun b xs q => by rw [upd_ne (ne_of_none q hn)]; exact q
  frzs := fun b u xs q => by rw [upd_ne (ne_of_none q hn)]; exact q
  tbls := fun b ps q => ⟨#[], by rw [upd_ne (ne_of_none q hn), q]; simp⟩
theorem Un.write (mu : Mut (H x)) (he : e = x ∨ H e = some (.own x)) (k : ∀ b u, b ≠ e → h.get? b = some u → h'.get? b = some u) (heo : ∃ u, h'.get? e = some u) : Un fs ex H (upd H x o) h h' := by
  have hx : ∀ b, H b = none → b ≠ x := fun b n z => by subst z; rw [n] at mu; exact mu
  have hb : ∀ b, H b = none → b ≠ e := fun b n z => by
    subst z
    rcases he with r | r
    · exact hx b n r
    · rw [n] at r; cases r
  have hm : ∀ b u, H b = some u → ¬ Mut (some u) → b ≠ x := fun b u q nm z => by subst z; rw [q] at mu; exact nm mu
  refine ⟨fun b u q n _ _ => k b u (hb b n) q, fun b u q n _ _ => ⟨u.slots, k b u (hb b n) q⟩, fun b u q n _ => by rw [upd_ne (hx b n)]; exact n, fun b u q _ => ?_,
    fun b xs q => by rw [upd_ne (hm b _ q fun z => z)]; exact q, fun b u xs q => by rw [upd_ne (hm b _ q fun z => z)]; exact q, fun b ps q => ⟨#[], by rw [upd_ne (hm b _ q fun z => z), q]; simp⟩⟩
  by_cases hbe : b = e
  · subst hbe; exact heo
  · exact ⟨u, k b u hbe q⟩
theorem Un.mono (u : Un fs ex H H1 h h1) (hs : ∀ b ∈ fs, b ∈ fs') (hx : ∀ b ∈ ex, b ∈ ex') : Un fs' ex' H H1 h h1 :=
  ⟨fun b ob q n hb he => u.keep b ob q n (fun z => hb (hs b z)) fun z => he (hx b z), fun _ _ q n _ he => u.any q n fun z => he (hx _ z), fun b ob q n he => u.free b ob q n fun z => he (hx b z), fun b ob q he => u.there b ob q fun z => he (hx b z), u.tups, u.frzs, u.tbls⟩
end

def trk (h : Heap) (H : Hp) : List Addr := (List.range h.objs.size).filter fun a => (H a).isSome
def hidT (h : Heap) (H : Hp) : Heap := PySem.W.hideAll h (trk h H)
theorem hidT_size (h : Heap) (H : Hp) : (hidT h H).objs.size = h.objs.size := PySem.W.hideAll_size _ _
theorem hidT_get {h : Heap} {H : Hp} {b : Addr} {o : Obj} (e : h.get? b = some o) (n : H b = none) : (hidT h H).get? b = some o :=
  PySem.W.hideAll_get _ e fun hm => by
    have q : (H b).isSome = true := (List.mem_filter.mp hm).2
    rw [n] at q; simp at q
theorem of_hidT {h : Heap} {H : Hp} {b : Addr} {o : Obj} (e : (hidT h H).get? b = some o) : h.get? b = some o ∧ H b = none := by
  have e' : h.get? b = some o := PySem.W.of_hideAll (trk h H) e
  refine ⟨e', ?_⟩
  cases q : H b with
  | none => rfl
  | some x =>
    have hm : b ∈ trk h H := List.mem_filter.mpr ⟨List.mem_range.mpr (Heap.lt_size e'), by simp [q]⟩
    have z : (hidT h H).get? b = none := PySem.W.hideAll_none (trk h H) hm
    rw [z] at e; cases e

def allNews (g h : Heap) (L : Addr) : List (Addr × Obj) := (List.range h.objs.size).filterMap fun a => if a = L ∨ (g.get? a).isSome = true then none else (h.get? a).map fun o => (a, o)
def rest (g h : Heap) (L d : Addr) : List (Addr × Obj) := (allNews g h L).filter fun p => decide (p.1 ≠ d)
end L2

namespace L2
open PySem PySem.Spec PyProof.Rows

structure Mod (K : PySem.W.Frag) (mg : Str → Option Value) (base : Heap) : Prop where
  kin : K.In base
  glob : base.Ns mainGlobals mg
  blt : ∃ mb, base.Ns builtinsNs mb ∧ ∀ x : Str, x ≠ "__name__" → mb x = bootBuiltins x
  nolimit : base.NoLimit

structure Cx where
  prog : Program
  w : World
  K : PySem.W.Frag
  mg : Str → Option Value
  base : Heap
  A : Around
  N : List Str
  s₀ : Shared
  H₀ : Hp
  env : Env
  outer : List Env
  stack : List Env
  ex : List Addr
  fn : Str → Bool
  calm : Bool
  pn : List (Addr × Obj)
  xe : Value → Shared → Prop
def frs (l : List Env) : List Addr := l.filterMap (·.frame)
abbrev Cx.fs (X : Cx) : List Addr := frs X.outer

def Vis (sc : Scope) (x : Str) : Prop := sc.names.lookup x = some .local ∨ sc.names.lookup x = some .cell ∨ sc.names.lookup x = some .free
def Loc (sc : Scope) (x : Str) : Prop := sc.names.lookup x = some .local ∨ sc.names.lookup x = some .cell
def Look (env : Env) (h : Heap) (m : Str → Option Value) (x : Str) (u : Value) : Prop :=
  (env.kindOf x = some .local ∧ m x = some u) ∨ ((env.kindOf x = some .cell ∨ env.kindOf x = some .free) ∧ ∃ c, env.cells.lookup x = some c ∧ h.IsCell c (some u))

structure Cx.Ok (X : Cx) : Prop where
  mod : Mod X.K X.mg X.base
  kind : X.env.scope.kind = .function
  glob : X.env.globals = mainGlobals
  blt : X.env.builtins = builtinsNs
  above : X.s₀.heap.objs.size ≤ X.env.locals
  inj : ∀ x y c, X.env.cells.lookup x = some c → X.env.cells.lookup y = some c → x = y
  has : ∀ x, (X.env.kindOf x = some .cell ∨ X.env.kindOf x = some .free) → ∃ c, X.env.cells.lookup x = some c
  cab : ∀ x c, X.fn x = true → X.env.cells.lookup x = some c → X.s₀.heap.objs.size ≤ c
  hd : X.calm = true → X.A.handled = none
  frames : X.A.frames = some X.stack
  stk : X.stack = X.outer ∨ (X.stack = X.env :: X.outer ∧ X.env.frame = some X.env.locals)
  exf : ∀ b ∈ X.ex, b ≠ X.env.locals ∧ ∀ x c, X.env.cells.lookup x = some c → c ≠ b
  bs : ∀ b o, X.base.get? b = some o → X.s₀.heap.get? b = some o ∧ X.H₀ b = none
  bsz : X.base.objs.size ≤ X.s₀.heap.objs.size
  noex : ∀ b o, X.base.get? b = some o → b ∉ X.ex
  exfs : ∀ b ∈ X.ex, b ∉ X.fs
  funs : X.s₀.heap.FunFrames X.base X.outer
  frf : ∀ b ∈ X.fs, X.H₀ b = none

structure Inv (X : Cx) (pins : List (Addr × Obj)) (σ : List (Option V)) (H : Hp) (s : Shared) : Prop where
  ok : X.Ok
  os : s.os = X.s₀.os
  bare : AllBare s.gens
  base : Un X.fs X.ex X.H₀ H X.s₀.heap s.heap
  loc : ∃ m, s.heap.Ns X.env.locals m ∧ ∀ (i : Nat) (x : Str) (v : V), X.N[i]? = some x → σ[i]? = some (some v) → Vis X.env.scope x → ∃ u, RelV v u ∧ Look X.env s.heap m x u
  cell : ∀ x c, X.env.cells.lookup x = some c → ∃ v, s.heap.IsCell c v
  free : H X.env.locals = none
  freeC : ∀ x c, X.env.cells.lookup x = some c → H c = none
  pin : ∀ p ∈ X.pn ++ pins, s.heap.get? p.1 = some p.2 ∧ H p.1 = none ∧ p.1 ≠ X.env.locals ∧ p.1 ∉ X.fs ∧ ∀ v, p.2.data ≠ .cell v
  hok : HOk X.prog X.w H s.heap
  len : σ.length = X.N.length

section
variable {X : Cx} {pins : List (Addr × Obj)} {σ : List (Option V)} {H H' : Hp} {s : Shared} {h' : Heap}

theorem Cx.Ok.nofr (ok : X.Ok) {b : Addr} {o : Obj} (e : X.base.get? b = some o) : b ∉ X.fs := fun hb => by
  have := (ok.funs.mem hb).1
  rw [e] at this; cases this
theorem Inv.bs (I : Inv X pins σ H s) : ∀ b o, X.base.get? b = some o → s.heap.get? b = some o ∧ H b = none := fun b o e =>
  ⟨I.base.keep b o (I.ok.bs b o e).1 (I.ok.bs b o e).2 (I.ok.nofr e) (I.ok.noex b o e), I.base.free b o (I.ok.bs b o e).1 (I.ok.bs b o e).2 (I.ok.noex b o e)⟩
theorem Inv.bk (I : Inv X pins σ H s) : ∀ b o, X.base.get? b = some o → s.heap.get? b = some o := fun b o e => (I.bs b o e).1
theorem Inv.mod (I : Inv X pins σ H s) : Mod X.K X.mg X.base := I.ok.mod
theorem Inv.kIn (I : Inv X pins σ H s) : X.K.In s.heap := I.ok.mod.kin.keeps I.bk
theorem Inv.nolimit (I : Inv X pins σ H s) : s.heap.NoLimit := I.ok.mod.nolimit.keeps I.bk
theorem Inv.fr (I : Inv X pins σ H s) : ∃ m, Fr X.base X.env.locals s.heap m :=
  let ⟨m, hn, _⟩ := I.loc
  ⟨m, hn, I.bk, Nat.le_trans I.ok.bsz I.ok.above⟩
theorem Inv.lt (I : Inv X pins σ H s) : X.env.locals < s.heap.objs.size := let ⟨_, hn, _⟩ := I.loc; hn.lt
theorem Inv.sz (I : Inv X pins σ H s) : X.s₀.heap.objs.size ≤ s.heap.objs.size := Nat.le_trans I.ok.above (Nat.le_of_lt I.lt)
theorem Inv.nofs (I : Inv X pins σ H s) {a : Addr} (h : s.heap.objs.size ≤ a) : a ∉ X.fs := fun hb => by
  obtain ⟨_, o, ho, _⟩ := I.ok.funs.mem hb
  exact absurd (Nat.lt_of_lt_of_le (Heap.lt_size ho) (Nat.le_trans I.sz h)) (Nat.lt_irrefl _)
theorem Inv.cne (I : Inv X pins σ H s) : ∀ x c, X.env.cells.lookup x = some c → c ≠ X.env.locals := fun x c e z => by
  obtain ⟨v, o, ho, hd⟩ := I.cell x c e
  obtain ⟨m, ⟨o', es, ep, ho', hd', _⟩, _⟩ := I.loc
  rw [z, ho'] at ho; cases ho; rw [hd'] at hd; cases hd
theorem Inv.funs (I : Inv X pins σ H s) : s.heap.FunFrames X.base X.outer := by
  have all : ∀ (l : List Env), (∀ b ∈ frs l, b ∈ X.fs) → X.s₀.heap.FunFrames X.base l → s.heap.FunFrames X.base l := by
    intro l
    induction l with
    | nil => intro _ _; trivial
    | cons env r ih =>
      intro hs hl
      obtain ⟨hk, ⟨L, o, hf, hn, ho, hd⟩, hr⟩ := hl
      have hL : L ∈ X.fs := hs L (by unfold frs; rw [List.filterMap_cons, hf]; exact List.mem_cons_self)
      obtain ⟨sl, e⟩ := I.base.slot L o ho (I.ok.frf L hL) hL fun z => I.ok.exfs L z hL
      exact ⟨hk, ⟨L, _, hf, hn, e, hd⟩, ih (fun b hb => hs b (by unfold frs; rw [List.filterMap_cons, hf]; exact List.mem_cons_of_mem _ hb)) hr⟩
  exact all X.outer (fun _ hb => hb) I.ok.funs

theorem Inv.stack (I : Inv X pins σ H s) : s.heap.FunFrames X.base X.stack := by
  rcases I.ok.stk with e | ⟨e, hf⟩
  · rw [e]; exact I.funs
  · rw [e]
    obtain ⟨m, hn, _⟩ := I.loc
    refine .cons (by rw [I.ok.kind]; decide) hf hn ?_ I.funs
    exact Heap.get?_none_of_le (Nat.le_trans I.ok.bsz I.ok.above)
theorem Inv.stkSub (I : Inv X pins σ H s) : ∀ b ∈ frs X.stack, b ∈ X.env.locals :: X.fs := fun b hb => by
  rcases I.ok.stk with e | ⟨e, hf⟩
  · rw [e] at hb; exact List.mem_cons_of_mem _ hb
  · rw [e] at hb
    unfold frs at hb
    rw [List.filterMap_cons, hf] at hb
    exact hb
theorem Inv.stkFree (I : Inv X pins σ H s) : ∀ b ∈ frs X.stack, H b = none := fun b hb => by
  rcases List.mem_cons.mp (I.stkSub b hb) with e | hb
  · rw [e]; exact I.free
  · obtain ⟨_, o, ho, _⟩ := I.ok.funs.mem hb
    exact I.base.free b o ho (I.ok.frf b hb) fun z => I.ok.exfs b z hb

theorem Inv.step {g' : Array GenState} {t' : Nat} {d' : Drawn} {ch : List Addr} (I : Inv X pins σ H s)
    (hch : ∀ b ∈ ch, (b ∈ X.ex ∨ X.s₀.heap.objs.size ≤ b) ∧ b ≠ X.env.locals ∧ (∀ x c, X.env.cells.lookup x = some c → c ≠ b) ∧ ∀ p ∈ X.pn ++ pins, p.1 ≠ b)
    (keep : ∀ b o, b ≠ X.env.locals → b ∉ X.fs → b ∉ ch → s.heap.get? b = some o → H b = none → h'.get? b = some o)
    (slot : ∀ b o, b ≠ X.env.locals → b ∈ X.fs → b ∉ ch → s.heap.get? b = some o → H b = none → ∃ sl, h'.get? b = some { o with slots := sl }) (free : ∀ b o, b ∉ ch → s.heap.get? b = some o → H b = none → H' b = none)
    (there : ∀ b o, b ∉ ch → s.heap.get? b = some o → ∃ o', h'.get? b = some o')
    (tups : ∀ b xs, H b = some (.tup xs) → H' b = some (.tup xs)) (frzs : ∀ b o u, H b = some (.frz o u) → H' b = some (.frz o u)) (tbls : ∀ b ps, H b = some (.tbl ps) → ∃ more, H' b = some (.tbl (ps ++ more)))
    (ns : ∀ m, s.heap.Ns X.env.locals m → h'.Ns X.env.locals m) (hok : HOk X.prog X.w H' h') (hg : AllBare g') :
    Inv X pins σ H' { s with heap := h', gens := g', drawn := d', toks := t' } := by
  have neL : ∀ b o, X.s₀.heap.get? b = some o → b ≠ X.env.locals := fun b o e => Nat.ne_of_lt (Nat.lt_of_lt_of_le (Heap.lt_size e) I.ok.above)
  have neC : ∀ b o, X.s₀.heap.get? b = some o → b ∉ X.ex → b ∉ ch := fun b o e hx hb => by
    rcases (hch b hb).1 with z | z
    · exact hx z
    · exact absurd (Nat.lt_of_lt_of_le (Heap.lt_size e) z) (Nat.lt_irrefl _)
  have cellK : ∀ x c, X.env.cells.lookup x = some c → ∀ v, s.heap.IsCell c v → h'.IsCell c v := fun x c e v ⟨o, ho, hd⟩ => by
    have nch : c ∉ ch := fun z => (hch c z).2.2.1 x c e rfl
    by_cases hc : c ∈ X.fs
    · obtain ⟨sl, q⟩ := slot c o (I.cne x c e) hc nch ho (I.freeC x c e)
      exact ⟨_, q, hd⟩
    · exact ⟨o, keep c o (I.cne x c e) hc nch ho (I.freeC x c e), hd⟩
  refine ⟨I.ok, I.os, hg, ⟨fun b o e n hb hx => ?_, fun b o e n hb hx => ?_, fun b o e n hx => ?_, fun b o e hx => ?_, fun b xs e => tups b xs (I.base.tups b xs e), fun b o xs e => frzs b o xs (I.base.frzs b o xs e), fun b ps e => ?_⟩, ?_, fun x c e => ?_, ?_, fun x c e => ?_, fun p hp => ?_, hok, I.len⟩
  · exact keep b o (neL b o e) hb (neC b o e hx) (I.base.keep b o e n hb hx) (I.base.free b o e n hx)
  · obtain ⟨sl, e1⟩ := I.base.slot b o e n hb hx
    obtain ⟨sl', e2⟩ := slot b _ (neL b o e) hb (neC b o e hx) e1 (I.base.free b o e n hx)
    exact ⟨sl', e2⟩
  · obtain ⟨o', e1⟩ := I.base.there b o e hx
    exact free b o' (neC b o e hx) e1 (I.base.free b o e n hx)
  · obtain ⟨o', e1⟩ := I.base.there b o e hx
    exact there b o' (neC b o e hx) e1
  · obtain ⟨m1, e1⟩ := I.base.tbls b ps e
    obtain ⟨m2, e2⟩ := tbls b _ e1
    exact ⟨m1 ++ m2, by rw [e2, Array.append_assoc]⟩
  · obtain ⟨m, hn, hl⟩ := I.loc
    refine ⟨m, ns m hn, fun i x v e1 e2 e3 => ?_⟩
    obtain ⟨u, r, l⟩ := hl i x v e1 e2 e3
    refine ⟨u, r, ?_⟩
    rcases l with l | ⟨k, c, e, z⟩
    · exact .inl l
    · exact .inr ⟨k, c, e, cellK x c e _ z⟩
  · obtain ⟨v, z⟩ := I.cell x c e
    exact ⟨v, cellK x c e v z⟩
  · obtain ⟨m, ⟨o, _, _, ho, _⟩, _⟩ := I.loc
    exact free _ o (fun z => (hch _ z).2.1 rfl) ho I.free
  · obtain ⟨v, o, ho, hd⟩ := I.cell x c e
    exact free c o (fun z => (hch c z).2.2.1 x c e rfl) ho (I.freeC x c e)
  · obtain ⟨e, n, ne, nf, d⟩ := I.pin p hp
    have nch : p.1 ∉ ch := fun z => (hch p.1 z).2.2.2 p hp rfl
    exact ⟨keep p.1 p.2 ne nf nch e n, free p.1 p.2 nch e n, ne, nf, d⟩
theorem Inv.un {t' : Nat} (I : Inv X pins σ H s) (u : Un X.fs [] H H' s.heap h') (hok : HOk X.prog X.w H' h') : Inv X pins σ H' { s with heap := h', toks := t' } := by
  obtain ⟨m, ⟨o, es, ep, ho, r⟩, _⟩ := id I.loc
  obtain ⟨sl, hL⟩ := u.any ho I.free (by simp)
  exact I.step (g' := s.gens) (d' := s.drawn) (ch := []) (fun _ z => nomatch z) (fun b o _ hb _ e n => u.keep b o e n hb (by simp)) (fun b o _ hb _ e n => u.slot b o e n hb (by simp)) (fun b o _ e n => u.free b o e n (by simp)) (fun b o _ e => u.there b o e (by simp)) u.tups u.frzs u.tbls (fun m' hm => by
    obtain ⟨o', es', ep', ho', r'⟩ := hm
    rw [ho] at ho'; cases ho'
    exact ⟨_, es', ep', hL, r'⟩) hok I.bare
theorem Inv.call {g' : Array GenState} {t' : Nat} {d' : Drawn} {ch : List Addr} (I : Inv X pins σ H s) (u : Un (frs X.stack) ch H H' s.heap h') (hok : HOk X.prog X.w H' h') (hg : AllBare g')
    (hch : ∀ b ∈ ch, (b ∈ X.ex ∨ X.s₀.heap.objs.size ≤ b) ∧ b ≠ X.env.locals ∧ (∀ x c, X.env.cells.lookup x = some c → c ≠ b) ∧ ∀ p ∈ X.pn ++ pins, p.1 ≠ b) :
    Inv X pins σ H' { s with heap := h', gens := g', drawn := d', toks := t' } := by
  obtain ⟨m, ⟨o, es, ep, ho, r⟩, _⟩ := id I.loc
  obtain ⟨sl, hL⟩ := u.any ho I.free fun z => (hch _ z).2.1 rfl
  exact I.step (ch := ch) hch (fun b o hL hb hc e n => u.keep b o e n (fun z => (List.mem_cons.mp (I.stkSub b z)).elim hL hb) hc) (fun b o _ _ hc e n => u.any e n hc) (fun b o hc e n => u.free b o e n hc) (fun b o hc e => u.there b o e hc) u.tups u.frzs u.tbls (fun m' hm => by
    obtain ⟨o', es', ep', ho', r'⟩ := hm
    rw [ho] at ho'; cases ho'
    exact ⟨_, es', ep', hL, r'⟩) hok hg
theorem Inv.turned {t' : Nat} {it : Addr} (I : Inv X pins σ H s) (k : ∀ b o, b ≠ it → s.heap.get? b = some o → h'.get? b = some o) (hn : H it = none) (hL : it ≠ X.env.locals)
    (h1 : it ∈ X.ex ∨ X.s₀.heap.objs.size ≤ it) (h2 : ∀ x c, X.env.cells.lookup x = some c → c ≠ it) (h3 : ∀ p ∈ X.pn ++ pins, p.1 ≠ it) : Inv X pins σ H { s with heap := h', toks := t' } := by
  have nit : ∀ b u, H b = some u → b ≠ it := fun b u e z => by rw [z, hn] at e; cases e
  refine I.step (g' := s.gens) (d' := s.drawn) (ch := [it]) (fun b hb => ?_) (fun b o _ _ hc e _ => k b o (fun z => hc (by simp [z])) e) (fun b o _ _ hc e _ => ⟨o.slots, k b o (fun z => hc (by simp [z])) e⟩) (fun _ _ _ _ n => n)
    (fun b o hc e => ⟨o, k b o (fun z => hc (by simp [z])) e⟩) (fun _ _ e => e) (fun _ _ _ e => e) (fun b ps e => ⟨#[], by rw [e]; simp⟩) (fun m hm => ?_) (fun b u e => ?_) I.bare
  · have e : b = it := by simpa using hb
    subst e
    exact ⟨h1, hL, h2, h3⟩
  · obtain ⟨o, es, ep, ho, r⟩ := hm
    exact ⟨o, es, ep, k _ o (Ne.symm hL) ho, r⟩
  · refine (I.hok b u e).stay (fun c v hc q => k c v ?_ q) (fun _ q => q) fun _ _ q => q
    rcases hc with z | z
    · rw [z]; exact nit b u e
    · exact nit c _ z
theorem Inv.tok (I : Inv X pins σ H s) (t : Nat) : Inv X pins σ H { s with toks := t } := I.un (h' := s.heap) (t' := t) Un.refl I.hok
theorem Inv.kept {t' : Nat} (I : Inv X pins σ H s) (k : ∀ b u, s.heap.get? b = some u → h'.get? b = some u) : Inv X pins σ H { s with heap := h', toks := t' } := I.un (Un.kept k) (I.hok.kept k)
theorem Inv.laid {a : Addr} {o : HO} {t' : Nat} (I : Inv X pins σ H s) (k : ∀ b u, s.heap.get? b = some u → h'.get? b = some u) (hp : s.heap.objs.size ≤ a) (new : ObjOk X.prog X.w (upd H a o) h' a o) :
    Inv X pins σ (upd H a o) { s with heap := h', toks := t' } := I.un (Un.laid k hp (I.hok.fresh hp)) (I.hok.laid k hp new)
theorem Inv.write {x e : Addr} {o : HO} {t' : Nat} (I : Inv X pins σ H s) (mu : Mut (H x)) (he : e = x ∨ H e = some (.own x)) (k : ∀ b u, b ≠ e → s.heap.get? b = some u → h'.get? b = some u) (heo : ∃ u, h'.get? e = some u)
    (new : ObjOk X.prog X.w (upd H x o) h' x o) : Inv X pins σ (upd H x o) { s with heap := h', toks := t' } := I.un (Un.write mu he k heo) (I.hok.write mu he k heo new)
theorem Inv.weak {σ' : List (Option V)} (I : Inv X pins σ H s) (hl : σ'.length = σ.length) (w : ∀ (i : Nat) v, σ'[i]? = some (some v) → σ[i]? = some (some v)) : Inv X pins σ' H s :=
  ⟨I.ok, I.os, I.bare, I.base, let ⟨m, hn, hl'⟩ := I.loc; ⟨m, hn, fun i x v e1 e2 e3 => hl' i x v e1 (w i v e2) e3⟩, I.cell, I.free, I.freeC, I.pin, I.hok, hl.trans I.len⟩
theorem Inv.pins_of {pins' : List (Addr × Obj)} (I : Inv X pins σ H s) (h : ∀ p ∈ pins', s.heap.get? p.1 = some p.2 ∧ H p.1 = none ∧ p.1 ≠ X.env.locals ∧ p.1 ∉ X.fs ∧ ∀ v, p.2.data ≠ .cell v) : Inv X pins' σ H s :=
  ⟨I.ok, I.os, I.bare, I.base, I.loc, I.cell, I.free, I.freeC, fun p hp => (List.mem_append.mp hp).elim (fun z => I.pin p (List.mem_append_left _ z)) (h p), I.hok, I.len⟩

theorem nodup_ix {N : List Str} (hN : N.Nodup) {i j : Nat} {x : Str} (a : N[i]? = some x) (b : N[j]? = some x) : i = j := by
  obtain ⟨h1, e1⟩ := List.getElem?_eq_some_iff.mp a
  obtain ⟨h2, e2⟩ := List.getElem?_eq_some_iff.mp b
  exact (List.getElem_inj hN).mp (e1.trans e2.symm)

theorem store_ok2 {M : Model} {A : Around} {E : Value → Shared → Prop} {i : Nat} {x : Str} {v : V} {u : Value} {Q : Unit → Shared → Prop} (I : Inv X pins σ H s) (hN : X.N.Nodup) (hi : X.N[i]? = some x) (hx : Loc X.env.scope x) (r : RelV v u)
    (h : ∀ s', Inv X pins (σ.set i (some v)) H s' → (∃ a, Heap.SameBut a s.heap s'.heap ∧ (a = X.env.locals ∨ X.env.cells.lookup x = some a)) → Q () s') (hf : X.fn x = true ∨ X.env.scope.names.lookup x = some .local := by first | exact .inl rfl | exact .inr rfl | assumption) : wpAny M A (storeName X.env x u) Q E s := by
  obtain ⟨m, hn, hl⟩ := id I.loc
  have hcls : (X.env.scope.kind == .class || (X.env.scope.kind == .module && X.env.locals != X.env.globals)) = false := by rw [I.ok.kind]; rfl
  have hiσ : i < σ.length := by rw [I.len]; exact (List.getElem?_eq_some_iff.mp hi).1
  have cne := I.cne
  have tracked : ∀ {a : Addr} {h' : Heap}, (∃ o, s.heap.get? a = some o ∧ H a = none) → Heap.SameBut a s.heap h' → HOk X.prog X.w H h' := fun {a h'} ha hs b ob e => by
    obtain ⟨_, _, hfree⟩ := ha
    refine (I.hok b ob e).stay (fun c w' hc q => (hs.2 c ?_).trans q) (fun _ q => q) fun _ _ q => q
    rintro rfl
    rcases hc with rfl | hc
    · rw [hfree] at e; cases e
    · rw [hfree] at hc; cases hc
  rcases hx with hk | hk
  · refine wpAny_storeName_local hk hn (fun h' hn' hs => ?_) hcls
    obtain ⟨oL, _, _, hoL, _⟩ := id hn
    refine h _ ⟨I.ok, I.os, I.bare, ⟨fun b o e n hb hx => ?_, fun b o e n hb hx => ?_, I.base.free, fun b o e hx => ?_, I.base.tups, I.base.frzs, I.base.tbls⟩, ⟨_, hn', fun j y v' e1 e2 e3 => ?_⟩, fun y c e => ?_, I.free, I.freeC, fun p hp => ?_, tracked ⟨oL, hoL, I.free⟩ hs, by simpa using I.len⟩ ⟨_, hs, .inl rfl⟩
    · exact (hs.2 b (Nat.ne_of_lt (Nat.lt_of_lt_of_le (Heap.lt_size e) I.ok.above))).trans (I.base.keep b o e n hb hx)
    · obtain ⟨sl, e1⟩ := I.base.slot b o e n hb hx
      exact ⟨sl, (hs.2 b (Nat.ne_of_lt (Nat.lt_of_lt_of_le (Heap.lt_size e) I.ok.above))).trans e1⟩
    · obtain ⟨o', e1⟩ := I.base.there b o e hx
      exact ⟨o', (hs.2 b (Nat.ne_of_lt (Nat.lt_of_lt_of_le (Heap.lt_size e) I.ok.above))).trans e1⟩
    · by_cases hj : j = i
      · subst hj
        rw [hi] at e1; cases e1
        rw [List.getElem?_set_self hiσ] at e2
        cases e2
        exact ⟨u, r, .inl ⟨hk, by simp⟩⟩
      · rw [List.getElem?_set_ne (Ne.symm hj)] at e2
        obtain ⟨u', r', q⟩ := hl j y v' e1 e2 e3
        refine ⟨u', r', ?_⟩
        rcases q with ⟨k, e⟩ | ⟨k, c, e, z⟩
        · refine .inl ⟨k, ?_⟩
          have : y ≠ x := fun e => hj (nodup_ix hN e1 (e ▸ hi))
          simp [this, e]
        · exact .inr ⟨k, c, e, z.sameBut hs (cne y c e)⟩
    · obtain ⟨w', z⟩ := I.cell y c e
      exact ⟨w', z.sameBut hs (cne y c e)⟩
    · obtain ⟨e, n, ne, nf, d⟩ := I.pin p hp
      exact ⟨(hs.2 p.1 ne).trans e, n, ne, nf, d⟩
  · have hfn : X.fn x = true := by
      rcases hf with z | z
      · exact z
      · rw [z] at hk; cases hk
    obtain ⟨c, hc⟩ := I.ok.has x (.inl hk)
    obtain ⟨w', z⟩ := I.cell x c hc
    refine wpAny_storeName_cell I.ok.kind hk hc z (fun h' hc' hs => ?_)
    obtain ⟨oc, hoc, hocd⟩ := id z
    refine h { s with heap := h' } ⟨I.ok, I.os, I.bare, ⟨fun b o e n hb hx => ?_, fun b o e n hb hx => ?_, I.base.free, fun b o e hx => ?_, I.base.tups, I.base.frzs, I.base.tbls⟩, ⟨m, hn.sameBut hs (Ne.symm (cne x c hc)), fun j y v' e1 e2 e3 => ?_⟩, fun y c' e => ?_, I.free, I.freeC, fun p hp => ?_, tracked ⟨oc, hoc, I.freeC x c hc⟩ hs, by simpa using I.len⟩ ⟨c, hs, .inr hc⟩
    · exact (hs.2 b (Nat.ne_of_lt (Nat.lt_of_lt_of_le (Heap.lt_size e) (I.ok.cab x c hfn hc)))).trans (I.base.keep b o e n hb hx)
    · obtain ⟨sl, e1⟩ := I.base.slot b o e n hb hx
      exact ⟨sl, (hs.2 b (Nat.ne_of_lt (Nat.lt_of_lt_of_le (Heap.lt_size e) (I.ok.cab x c hfn hc)))).trans e1⟩
    · obtain ⟨o', e1⟩ := I.base.there b o e hx
      exact ⟨o', (hs.2 b (Nat.ne_of_lt (Nat.lt_of_lt_of_le (Heap.lt_size e) (I.ok.cab x c hfn hc)))).trans e1⟩
    · by_cases hj : j = i
      · subst hj
        rw [hi] at e1; cases e1
        rw [List.getElem?_set_self hiσ] at e2
        cases e2
        exact ⟨u, r, .inr ⟨.inl hk, c, hc, hc'⟩⟩
      · rw [List.getElem?_set_ne (Ne.symm hj)] at e2
        obtain ⟨u', r', q⟩ := hl j y v' e1 e2 e3
        refine ⟨u', r', ?_⟩
        rcases q with q | ⟨k, c', e, z'⟩
        · exact .inl q
        · refine .inr ⟨k, c', e, z'.sameBut hs ?_⟩
          rintro rfl
          exact hj (nodup_ix hN e1 (I.ok.inj _ _ _ e hc ▸ hi))
    · by_cases hcc : c' = c
      · subst hcc; exact ⟨_, hc'⟩
      · obtain ⟨w2, z2⟩ := I.cell y c' e
        exact ⟨w2, z2.sameBut hs hcc⟩
    · obtain ⟨e, n, ne, nf, d⟩ := I.pin p hp
      refine ⟨(hs.2 p.1 ?_).trans e, n, ne, nf, d⟩
      intro q
      rw [q, hoc] at e
      have q' : oc = p.2 := Option.some.inj e
      exact d w' (by rw [← q']; exact hocd)
theorem store_ok {M : Model} {A : Around} {E : Value → Shared → Prop} {i : Nat} {x : Str} {v : V} {u : Value} {Q : Unit → Shared → Prop} (I : Inv X pins σ H s) (hN : X.N.Nodup) (hi : X.N[i]? = some x) (hx : Loc X.env.scope x) (r : RelV v u)
    (h : ∀ s', Inv X pins (σ.set i (some v)) H s' → Q () s') (hf : X.fn x = true ∨ X.env.scope.names.lookup x = some .local := by first | exact .inl rfl | exact .inr rfl | assumption) : wpAny M A (storeName X.env x u) Q E s :=
  store_ok2 I hN hi hx r (fun s' I' _ => h s' I') hf
theorem Inv.call' {s' : Shared} {ch : List Addr} (I : Inv X pins σ H s) (ho : s'.os = s.os) (u : Un (frs X.stack) ch H H' s.heap s'.heap) (hok : HOk X.prog X.w H' s'.heap) (hg : AllBare s'.gens)
    (hch : ∀ b ∈ ch, (b ∈ X.ex ∨ X.s₀.heap.objs.size ≤ b) ∧ b ≠ X.env.locals ∧ (∀ x c, X.env.cells.lookup x = some c → c ≠ b) ∧ ∀ p ∈ X.pn ++ pins, p.1 ≠ b) : Inv X pins σ H' s' := by
  obtain ⟨h', g', d', t', o'⟩ := s'
  have e : o' = s.os := ho
  subst e
  exact I.call (g' := g') (t' := t') (d' := d') u hok hg hch
end

abbrev XK := Value → Option Addr → Hp → Prop
abbrev St := List (Option V)
abbrev VK := V → Hp → Prop
abbrev TE := St → Hp → VK → Prop
abbrev TT := St → Hp → (Bool → Hp → Prop) → Prop
abbrev TA := St → Hp → (List V → Hp → Prop) → Prop
structure Ends where
  nx : St → Hp → Prop
  rt : VK
  bk : St → Hp → Prop := fun _ _ => False
  ct : St → Hp → Prop := fun _ _ => False
abbrev TS := Ends → St → Hp → Prop

def EP (X : Cx) (pins : List (Addr × Obj)) (σ : St) (Q : VK) (u : Value) (s' : Shared) : Prop := ∃ v H', Inv X pins σ H' s' ∧ RelV v u ∧ Q v H'
def TP (X : Cx) (pins : List (Addr × Obj)) (σ : St) (Q : Bool → Hp → Prop) (b : Bool) (s' : Shared) : Prop := ∃ H', Inv X pins σ H' s' ∧ Q b H'
def AP (X : Cx) (pins : List (Addr × Obj)) (σ : St) (Q : List V → Hp → Prop) (us : List Value) (s' : Shared) : Prop := ∃ vs H', Inv X pins σ H' s' ∧ Vals vs us ∧ Q vs H'
def SP (X : Cx) (pins : List (Addr × Obj)) (D : Ends) (f : Flow) (s' : Shared) : Prop :=
  match f with
  | .next => ∃ σ' H', Inv X pins σ' H' s' ∧ D.nx σ' H'
  | .brk => ∃ σ' H', Inv X pins σ' H' s' ∧ D.bk σ' H'
  | .cont => ∃ σ' H', Inv X pins σ' H' s' ∧ D.ct σ' H'
  | .ret u => ∃ v σ' H', Inv X pins σ' H' s' ∧ RelV v u ∧ D.rt v H'

def PE (X : Cx) (e : Expr) (t : TE) : Prop :=
  ∀ (pins : List (Addr × Obj)) (s : Shared) (σ : St) (H : Hp) (Q : VK), Inv X pins σ H s → t σ H Q → wpAny (model X.prog X.w) X.A (eval e X.env) (EP X pins σ Q) X.xe s
def PT (X : Cx) (e : Expr) (t : TT) : Prop :=
  ∀ (pins : List (Addr × Obj)) (s : Shared) (σ : St) (H : Hp) (Q : Bool → Hp → Prop), Inv X pins σ H s → t σ H Q → wpAny (model X.prog X.w) X.A (isTrue e X.env (eval e X.env)) (TP X pins σ Q) X.xe s
def PW (X : Cx) (e : Expr) (t : TT) : Prop :=
  ∀ (whole : Sem Value) (pins : List (Addr × Obj)) (s : Shared) (σ : St) (H : Hp) (Q : Bool → Hp → Prop), Inv X pins σ H s → t σ H Q → wpAny (model X.prog X.w) X.A (isTrue e X.env whole) (TP X pins σ Q) X.xe s
theorem PW.pt {X : Cx} {e : Expr} {t : TT} (h : PW X e t) : PT X e t := h _
def PA (X : Cx) (es : List Expr) (t : TA) : Prop :=
  ∀ (pos : Pos) (pins : List (Addr × Obj)) (s : Shared) (σ : St) (H : Hp) (Q : List V → Hp → Prop), Inv X pins σ H s → t σ H Q → wpAny (model X.prog X.w) X.A (spliced (backTo pos (starEach es X.env))) (AP X pins σ Q) X.xe s
def PS (X : Cx) (st : Stmt) (t : TS) : Prop :=
  ∀ (pins : List (Addr × Obj)) (s : Shared) (σ : St) (H : Hp) (D : Ends), Inv X pins σ H s → t D σ H → wpAny (model X.prog X.w) X.A (exec st X.env) (SP X pins D) X.xe s
def PSs (X : Cx) (st : List Stmt) (t : TS) : Prop :=
  ∀ (pins : List (Addr × Obj)) (s : Shared) (σ : St) (H : Hp) (D : Ends), Inv X pins σ H s → t D σ H → wpAny (model X.prog X.w) X.A (execs st X.env) (SP X pins D) X.xe s
theorem thn {α : Type} {t : Sem α} {Q Q' : α → Shared → Prop} {M : Model} {A : Around} {E : Value → Shared → Prop} {s : Shared} (h : wpAny M A t Q E s) (hQ : ∀ a s, Q a s → Q' a s) : wpAny M A t Q' E s := wpAny_mono h hQ fun _ _ x => x
end L2

namespace L2
open PySem PySem.Spec PyProof.Rows
section
variable {X : Cx}

def tVar (i : Nat) : TE := fun σ H Q => ∃ v, σ[i]? = some (some v) ∧ Q v H
def tC (v : V) : TE := fun _ H Q => Q v H
theorem pe_var {i : Nat} {x : Str} {pos : Pos} (hN : X.N[i]? = some x) (hv : Vis X.env.scope x) (hd : (x == ("__debug__" : Str)) = false := by decide) (hcd : (x == ("__classdict__" : Str)) = false := by decide) : PE X (.Name x pos) (tVar i) := by
  intro pins s σ H Q I h
  obtain ⟨v, e, h⟩ := h
  obtain ⟨m, hn, hl⟩ := I.loc
  obtain ⟨u, r, l⟩ := hl i x v hN e hv
  have fin : EP X pins σ Q u s := ⟨v, H, I, r, h⟩
  rcases l with ⟨hk, hm⟩ | ⟨hk, c, hc, hcell⟩
  · exact wpAny_Name (wpAny_loadName_local I.ok.kind hk hn hm fin) hd
  · rcases hk with hk | hk
    · exact wpAny_Name (wpAny_loadName_cell I.ok.kind hk hc hcell fin) hd
    · exact wpAny_Name (wpAny_loadName_free I.ok.kind hk hc hcell fin hcd) hd
theorem pe_int {i j pos} : PE X (.Constant (.int i) j pos) (tC (.int i)) := fun _ _ _ H _ I h => wpAny_Constant_int ⟨.int i, H, I.tok _, ⟨_, rfl⟩, h⟩
theorem pe_bl {b j pos} : PE X (.Constant (.bool b) j pos) (tC (.bl b)) := fun _ _ _ H _ I h => Constant_bool ⟨.bl b, H, I, rfl, h⟩
theorem pe_non {j pos} : PE X (.Constant .none j pos) (tC .non) := fun _ _ _ H _ I h => Constant_none ⟨.non, H, I, rfl, h⟩
theorem pe_str {x j pos} : PE X (.Constant (.str x) j pos) (tC (.str x)) := fun _ _ _ H _ I h => Calls.Constant_str ⟨.str x, H, I.tok _, ⟨_, rfl⟩, h⟩

def Gl (X : Cx) (x : Str) : Prop := X.env.kindOf x = some .globalImplicit
theorem ld_glob {E : Value → Shared → Prop} {pins : List (Addr × Obj)} {s : Shared} {σ : St} {H : Hp} {x : Str} {u : Value} {pos : Pos} {Q : Value → Shared → Prop} (I : Inv X pins σ H s) (hg : Gl X x) (hm : X.mg x = some u) (h : Q u s)
    (hd : (x == ("__debug__" : Str)) = false := by decide) : wpAny (model X.prog X.w) X.A (eval (.Name x pos) X.env) Q E s :=
  Calls.Name_function_global I.ok.kind hg (Calls.loadGlobal_global (by rw [I.ok.glob]; exact I.mod.glob.keeps I.bk) hm h) hd
theorem ld_blt {E : Value → Shared → Prop} {pins : List (Addr × Obj)} {s : Shared} {σ : St} {H : Hp} {x : Str} {u : Value} {pos : Pos} {Q : Value → Shared → Prop} (I : Inv X pins σ H s) (hg : Gl X x) (hm : X.mg x = none) (hv : bootBuiltins x = some u) (h : Q u s)
    (hn : x ≠ "__name__" := by decide) (hd : (x == ("__debug__" : Str)) = false := by decide) : wpAny (model X.prog X.w) X.A (eval (.Name x pos) X.env) Q E s := by
  obtain ⟨mb, h1, h2⟩ := I.mod.blt
  exact Calls.Name_function_global I.ok.kind hg (Calls.loadGlobal_builtin (by rw [I.ok.glob]; exact I.mod.glob.keeps I.bk) hm (by rw [I.ok.blt]; exact h1.keeps I.bk) ((h2 x hn).trans hv) h) hd
theorem pe_bltn {x : Str} {v : V} {u : Value} {pos : Pos} (hg : Gl X x) (hm : X.mg x = none) (hv : bootBuiltins x = some u) (r : RelV v u) (hn : x ≠ "__name__" := by decide) (hd : (x == ("__debug__" : Str)) = false := by decide) : PE X (.Name x pos) (tC v) :=
  fun _ _ _ H _ I h => ld_blt I hg hm hv ⟨v, H, I, r, h⟩ hn hd

variable {a b : Expr} {ta tb : TE} {pos : Pos}
variable {tA tB' : TT} {rest : List Expr}
def tNot (t : TT) : TT := fun σ H Q => t σ H fun c H1 => Q (!c) H1
theorem pw_and1 (ha : PT X a tA) : PW X (.BoolOp .And [a] pos) tA := by
  intro wh pins s σ H Q I h
  refine isTrue_and (thn (ha pins s σ H Q I h) fun c s1 e => ?_)
  cases c with
  | true => exact isTrue_and_nil e
  | false => exact e
theorem pw_or1 (ha : PT X a tA) : PW X (.BoolOp .Or [a] pos) tA := by
  intro wh pins s σ H Q I h
  refine isTrue_or (thn (ha pins s σ H Q I h) fun c s1 e => ?_)
  cases c with
  | false => exact isTrue_or_nil e
  | true => exact e
theorem pt_not (ha : PT X a tA) : PT X (.UnaryOp .Not a pos) (tNot tA) := by
  intro pins s σ H Q I h
  exact isTrue_not (ha pins s σ H (fun c H1 => Q (!c) H1) I h)
theorem pe_one {op} {t : TE} (h : PE X a t) : PE X (.BoolOp op [a] pos) t := fun pins s σ H Q I hw => BoolOp_one (h pins s σ H Q I hw)
end
end L2

namespace L2
open PySem PySem.Spec PyProof.Rows

def SqL (K : PySem.W.Frag) (H : Hp) (a : Addr) (xs : List V) : Prop :=
  Rd H a (.lst xs) ∨
    ∃ (o : Obj) (its : Array Value) (n : Nat), K.lookup a = some o ∧ o.cls = .type "list" ∧ o.dict = none ∧ o.data = .seq its n ∧ its.size ≤ sizeLine ∧ Vals xs its.toList
def SqT (K : PySem.W.Frag) (H : Hp) (a : Addr) (xs : List V) : Prop :=
  Rd H a (.tup xs) ∨
    ∃ (o : Obj) (its : Array Value) (n : Nat), K.lookup a = some o ∧ o.cls = .type "tuple" ∧ o.data = .seq its n ∧ its.size ≤ sizeLine ∧ Vals xs its.toList
def absV : Value → Option V
  | .none => some .non
  | .bool b => some (.bl b)
  | .int i _ => some (.int i)
  | .str x _ => some (.str x)
  | .bytes b _ => some (.byt b)
  | .float b _ => some (.flt b)
  | .ref a => some (.ref a)
  | .type n => some (.ty n)
  | _ => none
theorem RelV.abs {x : V} {u : Value} (r : RelV x u) : absV u = some x := by
  cases x with
  | non => cases r; rfl
  | bl _ => cases r; rfl
  | int _ => obtain ⟨t, rfl⟩ := r; rfl
  | str _ => obtain ⟨t, rfl⟩ := r; rfl
  | byt _ => obtain ⟨t, rfl⟩ := r; rfl
  | flt _ => obtain ⟨t, rfl⟩ := r; rfl
  | ref _ => cases r; rfl
  | ty _ => cases r; rfl
theorem RelV.inj {x y : V} {u : Value} (r : RelV x u) (q : RelV y u) : x = y := Option.some.inj (r.abs.symm.trans q.abs)
theorem Vals.inj : ∀ {xs ys : List V} {us : List Value}, Vals xs us → Vals ys us → xs = ys
  | _, _, _, .nil, .nil => rfl
  | _, _, _, .cons r t, .cons r' t' => by rw [r.inj r', Vals.inj t t']
section
variable {X : Cx} {pins : List (Addr × Obj)} {σ : St} {H : Hp} {s : Shared} {a : Addr} {xs ys : List V}
theorem SqL.of {K : PySem.W.Frag} (h : H a = some (.lst xs)) : SqL K H a xs := .inl (.inl h)
theorem SqT.of {K : PySem.W.Frag} (h : H a = some (.tup xs)) : SqT K H a xs := .inl (.inl h)
theorem Inv.list (I : Inv X pins σ H s) (h : SqL X.K H a xs) : ∃ its : List Value, Vals xs its ∧ PlainL s.heap a its.toArray ∧ xs.length ≤ sizeLine := by
  rcases h with h | ⟨o, its, n, hk, hc, hd, hs, hz, r⟩
  · obtain ⟨z, its, n, r, e⟩ := h.ok I.hok
    exact ⟨its, r, ⟨_, n, e, rfl, rfl, rfl⟩, z⟩
  · refine ⟨its.toList, r, ⟨o, n, I.kIn a o hk, hc, hd, by simpa using hs⟩, ?_⟩
    have e := r.length
    simp only [Array.length_toList] at e
    omega
theorem Inv.tuple (I : Inv X pins σ H s) (h : SqT X.K H a xs) : ∃ its : List Value, Vals xs its ∧ IsTup s.heap a its.toArray ∧ xs.length ≤ sizeLine := by
  rcases h with h | ⟨o, its, n, hk, hc, hs, hz, r⟩
  · obtain ⟨z, its, r, p⟩ := h.ok I.hok
    exact ⟨its, r, p, z⟩
  · refine ⟨its.toList, r, ⟨o, I.kIn a o hk, hc, n, by simpa using hs⟩, ?_⟩
    have e := r.length
    simp only [Array.length_toList] at e
    omega
theorem Inv.list_inj (I : Inv X pins σ H s) (h : SqL X.K H a xs) (h' : SqL X.K H a ys) : xs = ys := by
  obtain ⟨its, r, ⟨o, n, e, _, _, d⟩, _⟩ := I.list h
  obtain ⟨its', r', ⟨o', n', e', _, _, d'⟩, _⟩ := I.list h'
  rw [e] at e'; cases e'
  rw [d] at d'
  injection d' with d1 _
  have : its = its' := by simpa using congrArg Array.toList d1
  subst this
  exact r.inj r'
theorem Inv.tuple_inj (I : Inv X pins σ H s) (h : SqT X.K H a xs) (h' : SqT X.K H a ys) : xs = ys := by
  obtain ⟨its, r, ⟨o, e, _, n, d⟩, _⟩ := I.tuple h
  obtain ⟨its', r', ⟨o', e', _, n', d'⟩, _⟩ := I.tuple h'
  rw [e] at e'; cases e'
  rw [d] at d'
  injection d' with d1 _
  have : its = its' := by simpa using congrArg Array.toList d1
  subst this
  exact r.inj r'
end

abbrev Cx.wish (X : Cx) (E : Value → Shared → Prop) : Cx := { X with xe := E }
abbrev Cx.nox (X : Cx) : Cx := X.wish fun _ _ => False
theorem Cx.Ok.wish {X : Cx} (ok : X.Ok) (E : Value → Shared → Prop) : (X.wish E).Ok :=
  ⟨ok.mod, ok.kind, ok.glob, ok.blt, ok.above, ok.inj, ok.has, ok.cab, ok.hd, ok.frames, ok.stk, ok.exf, ok.bs, ok.bsz, ok.noex, ok.exfs, ok.funs, ok.frf⟩
theorem Cx.Ok.unwish {X : Cx} {E : Value → Shared → Prop} (ok : (X.wish E).Ok) : X.Ok :=
  ⟨ok.mod, ok.kind, ok.glob, ok.blt, ok.above, ok.inj, ok.has, ok.cab, ok.hd, ok.frames, ok.stk, ok.exf, ok.bs, ok.bsz, ok.noex, ok.exfs, ok.funs, ok.frf⟩
section
variable {X : Cx} {pins : List (Addr × Obj)} {σ : St} {H : Hp} {s : Shared} {E : Value → Shared → Prop}
theorem Inv.wish (I : Inv X pins σ H s) (E : Value → Shared → Prop) : Inv (X.wish E) pins σ H s := ⟨I.ok.wish E, I.os, I.bare, I.base, I.loc, I.cell, I.free, I.freeC, I.pin, I.hok, I.len⟩
theorem Inv.unwish (I : Inv (X.wish E) pins σ H s) : Inv X pins σ H s := ⟨I.ok.unwish, I.os, I.bare, I.base, I.loc, I.cell, I.free, I.freeC, I.pin, I.hok, I.len⟩
theorem SP.unwish {D : Ends} {f : Flow} {s' : Shared} (h : SP (X.wish E) pins D f s') : SP X pins D f s' := by
  cases f with
  | next => obtain ⟨σ', H', I, q⟩ := h; exact ⟨σ', H', I.unwish, q⟩
  | brk => obtain ⟨σ', H', I, q⟩ := h; exact ⟨σ', H', I.unwish, q⟩
  | cont => obtain ⟨σ', H', I, q⟩ := h; exact ⟨σ', H', I.unwish, q⟩
  | ret u => obtain ⟨v, σ', H', I, r, q⟩ := h; exact ⟨v, σ', H', I.unwish, r, q⟩
theorem PE.nox {e : Expr} {t : TE} (h : PE X.nox e t) : PE X e t := fun pins s σ H Q I hw =>
  wpAny_mono (h pins s σ H Q (I.wish _) hw) (fun _ _ ⟨v, H', I', r, q⟩ => ⟨v, H', I'.unwish, r, q⟩) fun _ _ z => False.elim z
theorem PT.nox {e : Expr} {t : TT} (h : PT X.nox e t) : PT X e t := fun pins s σ H Q I hw =>
  wpAny_mono (h pins s σ H Q (I.wish _) hw) (fun _ _ ⟨H', I', q⟩ => ⟨H', I'.unwish, q⟩) fun _ _ z => False.elim z
theorem PSs.nox {st : List Stmt} {t : TS} (h : PSs X.nox st t) : PSs X st t := fun pins s σ H D I hw =>
  wpAny_mono (h pins s σ H D (I.wish _) hw) (fun _ _ q => q.unwish) fun _ _ z => False.elim z
end

section
variable {X : Cx} {st : Stmt} {rest : List Stmt} {t u : TS} {e : Expr} {te : TE} {pos : Pos}
def tNext : TS := fun D σ H => D.nx σ H
def tSeq (t u : TS) : TS := fun D σ H => t { D with nx := u D } σ H
theorem pss_nil : PSs X [] tNext := fun _ _ σ H _ I h => wpAny_execs_nil ⟨σ, H, I, h⟩
theorem pss_cons (h1 : PS X st t) (h2 : PSs X rest u) : PSs X (st :: rest) (tSeq t u) := by
  intro pins s σ H D I h
  refine wpAny_execs_cons (thn (h1 pins s σ H { D with nx := u D } I h) fun f s1 q => ?_)
  cases f with
  | next =>
    obtain ⟨σ', H', I', q⟩ := q
    exact h2 pins s1 σ' H' D I' q
  | ret v => exact q
  | brk => exact q
  | cont => exact q
theorem pss_one (h1 : PS X st t) : PSs X [st] t := by
  intro pins s σ H D I h
  refine wpAny_execs_cons (thn (h1 pins s σ H D I h) fun f s1 q => ?_)
  cases f with
  | next => exact wpAny_execs_nil q
  | ret v => exact q
  | brk => exact q
  | cont => exact q
theorem Inv.quiet {pins : List (Addr × Obj)} {σ : St} {H : Hp} {s : Shared} (I : Inv X pins σ H s) : interactive X.env = false := by simp [interactive, I.ok.kind]
def tDrop (te : TE) : TS := fun D σ H => te σ H fun _ H1 => D.nx σ H1
theorem ps_expr (he : PE X e te) (hs : swapsWith e none pos.line X.env = pure false := by rfl) : PS X (.Expr e pos) (tDrop te) := by
  intro pins s σ H D I h
  exact wpAny_Expr_any (thn (he pins s σ H _ I h) fun v s1 ⟨x, H1, I1, r1, q1⟩ => ⟨σ, H1, I1, q1⟩) I.quiet hs
def tRet (te : TE) : TS := fun D σ H => te σ H D.rt
theorem ps_ret (he : PE X e te) : PS X (.Return (some e) pos) (tRet te) := by
  intro pins s σ H D I h
  exact wpAny_Return_some (thn (he pins s σ H _ I h) fun v s1 ⟨x, H1, I1, r1, q1⟩ => ⟨x, σ, H1, I1, r1, q1⟩)
end

abbrev TG := V → St → Hp → (St → Hp → Prop) → Prop
def PG (X : Cx) (target : Expr) (t : TG) : Prop :=
  ∀ (pins : List (Addr × Obj)) (s : Shared) (σ : St) (H : Hp) (v : V) (u : Value) (Q : St → Hp → Prop), Inv X pins σ H s → RelV v u → t v σ H Q →
    wpAny (model X.prog X.w) X.A (assign target X.env u) (fun _ s' => ∃ σ' H', Inv X pins σ' H' s' ∧ Q σ' H') X.xe s
section
variable {X : Cx} {pos : Pos}
def gName (i : Nat) : TG := fun v σ H Q => Q (σ.set i (some v)) H
theorem pg_name {i : Nat} {x : Str} (hN : X.N.Nodup) (hi : X.N[i]? = some x) (hx : Loc X.env.scope x) (hf : X.fn x = true ∨ X.env.scope.names.lookup x = some .local := by first | exact .inl rfl | exact .inr rfl | assumption) : PG X (.Name x pos) (gName i) := by
  intro pins s σ H v u Q I r h
  exact wpAny_assign_Name (store_ok I hN hi hx r (fun s' I' => ⟨_, H, I', h⟩) hf)
def tAsg (te : TE) (g : TG) : TS := fun D σ H => te σ H fun x H1 => g x σ H1 D.nx
theorem ps_set {i : Nat} {x : Str} {e : Expr} {te : TE} {pos' : Pos} (hN : X.N.Nodup) (hi : X.N[i]? = some x) (hx : Loc X.env.scope x) (he : PE X e te) (hs : swapsWith e (some (.Name x pos')) pos.line X.env = pure false := by rfl) (hf : X.fn x = true ∨ X.env.scope.names.lookup x = some .local := by first | exact .inl rfl | exact .inr rfl | assumption) :
    PS X (.Assign [.Name x pos'] e pos) (tAsg te (gName i)) := by
  intro pins s σ H D I h
  refine wpAny_Assign_Name (thn (he pins s σ H _ I h) fun v s1 ⟨y, H1, I1, r1, q1⟩ => ?_) hs
  exact store_ok I1 hN hi hx r1 (fun s2 I2 => ⟨_, H1, I2, q1⟩) hf
end

section
variable {X : Cx} {pos : Pos}
end

structure It where
  go : Nat → Hp → Prop
  yld : Nat → Hp → V → Hp → Prop
  stop : Nat → Hp → Prop
def FpOk (X : Cx) (pins : List (Addr × Obj)) (H : Hp) (b : Addr) : Prop :=
  H b = none ∧ b ≠ X.env.locals ∧ b ∉ X.fs ∧ (b ∈ X.ex ∨ X.s₀.heap.objs.size ≤ b) ∧ (∀ x c, X.env.cells.lookup x = some c → c ≠ b) ∧ ∀ p ∈ X.pn ++ pins, p.1 ≠ b
theorem Inv.fpOk {X : Cx} {pins : List (Addr × Obj)} {σ : St} {H H' : Hp} {s : Shared} {b : Addr} (I : Inv X pins σ H s) (hb : s.heap.objs.size ≤ b) (hn : H' b = none) : FpOk X pins H' b := by
  refine ⟨hn, Nat.ne_of_gt (Nat.lt_of_lt_of_le I.lt hb), I.nofs hb, .inr (Nat.le_trans I.sz hb), fun x c e z => ?_, fun p hp z => ?_⟩
  · obtain ⟨v, q⟩ := I.cell x c e
    exact absurd (Nat.lt_of_lt_of_le q.lt (by rw [z]; exact hb)) (Nat.lt_irrefl _)
  · exact absurd (Nat.lt_of_lt_of_le (Heap.lt_size (I.pin p hp).1) (by rw [z]; exact hb)) (Nat.lt_irrefl _)
structure Turn (P : Program) (w : World) (K : PySem.W.Frag) (tg : Expr) (J : It) (fp : List Addr) (it : Addr) (tn : Nat → Heap → Prop) : Prop where
  mem : it ∈ fp
  obj : ∀ i h, tn i h → ∀ b ∈ fp, ∃ o, h.get? b = some o ∧ ∀ v, o.data ≠ .cell v
  keep : ∀ i h h', tn i h → (∀ b ∈ fp, ∀ o, h.get? b = some o → h'.get? b = some o) → tn i h'
  item : ∀ (X : Cx), X.prog = P → X.w = w → X.K = K → X.calm = true → ∀ (i : Nat) (pins : List (Addr × Obj)) (s : Shared) (σ : St) (H : Hp) (E : Value → Shared → Prop), Inv X pins σ H s → (∀ b ∈ fp, FpOk X pins H b) → tn i s.heap → J.go i H →
    wpAny (model P w) X.A (pyNext (.ref it)) (fun r s1 => ∃ u, r = some u ∧
      wpAny (model P w) X.A (letOwnedTupleGo tg (.ref it) u) (fun _ s2 => ∃ x H', Inv X pins σ H' s2 ∧ RelV x u ∧ J.yld i H x H' ∧ tn (i + 1) s2.heap ∧ ∀ b ∈ fp, H' b = none) E s1) E s
  done : ∀ (X : Cx), X.prog = P → X.w = w → X.K = K → X.calm = true → ∀ (i : Nat) (pins : List (Addr × Obj)) (s : Shared) (σ : St) (H : Hp) (E : Value → Shared → Prop), Inv X pins σ H s → (∀ b ∈ fp, FpOk X pins H b) → tn i s.heap → J.stop i H →
    wpAny (model P w) X.A (pyNext (.ref it)) (fun r s1 => r = none ∧ Inv X pins σ H s1) E s
  self : ∀ (A : Around) (i : Nat) (s : Shared) (Q : Value → Shared → Prop) (E : Value → Shared → Prop), tn i s.heap → Q (.ref it) s → wpAny (model P w) A (pyIter (.ref it)) Q E s
abbrev TI := St → Hp → (It → Hp → Prop) → Prop
def PIE (X : Cx) (pins : List (Addr × Obj)) (σ : St) (tg : Expr) (R : It → Hp → Prop) (itv : Value) (s2 : Shared) : Prop :=
  ∃ (it : Addr) (fp : List Addr) (tn : Nat → Heap → Prop) (J : It) (H' : Hp), itv = .ref it ∧ Inv X pins σ H' s2 ∧ Turn X.prog X.w X.K tg J fp it tn ∧ tn 0 s2.heap ∧ (∀ b ∈ fp, FpOk X pins H' b) ∧ R J H'
def PI (X : Cx) (tg iter : Expr) (wi : TI) : Prop :=
  ∀ (pins : List (Addr × Obj)) (s : Shared) (σ : St) (H : Hp) (R : It → Hp → Prop), Inv X pins σ H s → wi σ H R →
    wpAny (model X.prog X.w) X.A (eval iter X.env) (fun v s1 => wpAny (model X.prog X.w) X.A (pyIter v) (PIE X pins σ tg R) X.xe s1) X.xe s

theorem go_of {M : Model} {A : Around} {E : Value → Shared → Prop} {s : Shared} {tg : Expr} {it : Addr} {u : Value} {o : Obj} {n : String} {vs : Array Value} {Q : Unit → Shared → Prop} (ho : s.heap.get? it = some o) (hc : o.cls = .type n) (hd : o.data = .fields vs)
    (hn : ["enumerate", "zip", "dict_itemiterator", "dict_reverseitemiterator", "odict_iterator", "itertools.zip_longest", "itertools.pairwise"].contains n = false) (hQ : Q () s) : wpAny M A (letOwnedTupleGo tg (.ref it) u) Q E s := by
  unfold letOwnedTupleGo
  cases tg <;> first
    | exact wpAny_pure hQ
    | (cases u <;> first
        | exact wpAny_pure hQ
        | (refine wpAny_bind (wpAny_load ho ?_)
           rw [hc, hd]
           show wpAny M A (if (["enumerate", "zip", "dict_itemiterator", "dict_reverseitemiterator", "odict_iterator", "itertools.zip_longest", "itertools.pairwise"].contains n && vs[0]? == some (rawInt _)) = true then _ else _) Q E s
           rw [if_neg (by intro h; rw [hn, Bool.false_and] at h; cases h)]
           exact wpAny_pure hQ))

def Itl (K : PySem.W.Frag) (a : Addr) : It :=
  ⟨fun i H => ∃ xs x, SqL K H a xs ∧ xs[i]? = some x, fun i H x H' => H' = H ∧ ∀ xs, SqL K H a xs → xs[i]? = some x, fun i H => ∃ xs, SqL K H a xs ∧ xs.length ≤ i⟩
def Itt (K : PySem.W.Frag) (a : Addr) : It :=
  ⟨fun i H => ∃ xs x, SqT K H a xs ∧ xs[i]? = some x, fun i H x H' => H' = H ∧ ∀ xs, SqT K H a xs → xs[i]? = some x, fun i H => ∃ xs, SqT K H a xs ∧ xs.length ≤ i⟩
def Itr (lo : Int) (n : Nat) : It := ⟨fun i _ => i < n, fun i H x H' => H' = H ∧ x = .int (lo + i), fun i _ => n ≤ i⟩
theorem turn_list {P : Program} {w : World} {K : PySem.W.Frag} {tg : Expr} (a it : Addr) : Turn P w K tg (Itl K a) [it] it (fun i h => h.IsListIter it a i) where
  mem := by simp
  obj := fun i h st b hb => by
    have e : b = it := by simpa using hb
    subst e
    obtain ⟨o, e, c, d⟩ := st
    exact ⟨o, e, fun v z => by rw [d] at z; cases z⟩
  keep := fun i h h' st k => st.at fun o e => k it (by simp) o e
  item := by
    intro X hP hw hK hc i pins s σ H E I hf st hg
    subst hP hw hK
    obtain ⟨xs, x, hq, hx⟩ := hg
    obtain ⟨its, rv, p, hz⟩ := I.list hq
    obtain ⟨u, hu, ru⟩ := rv.get hx
    obtain ⟨f0, f1, f2, f3, f4, f5⟩ := hf it (by simp)
    refine wpAny_pyNext_list_item st p.isList (x := u) (by simpa using hu) fun h' st' sb => ?_
    have I1 : Inv X pins σ H { s with heap := h' } := I.turned (t' := s.toks) (fun b o hb e => (sb.2 b hb).trans e) f0 f1 f3 f4 f5
    obtain ⟨o, e, c, d⟩ := id st'
    exact ⟨u, rfl, go_of (s := { s with heap := h' }) e c d (by decide) ⟨x, H, I1, ru, ⟨rfl, fun ys hy => by rw [I.list_inj hy hq]; exact hx⟩, st', fun b hb => (hf b hb).1⟩⟩
  done := by
    intro X hP hw hK hc i pins s σ H E I hf st hg
    subst hP hw hK
    obtain ⟨xs, hq, hx⟩ := hg
    obtain ⟨its, rv, p, hz⟩ := I.list hq
    obtain ⟨f0, f1, f2, f3, f4, f5⟩ := hf it (by simp)
    have hl := rv.length
    exact wpAny_pyNext_list_end (I.ok.hd hc) st p.isList (by simp; omega) fun h' eb => ⟨rfl, I.turned (t' := s.toks) (fun b o hb e => eb b o hb e) f0 f1 f3 f4 f5⟩
  self := fun _ _ _ _ _ st h => wpAny_pyIter_listiter st h
theorem turn_tuple {P : Program} {w : World} {K : PySem.W.Frag} {tg : Expr} (a it : Addr) : Turn P w K tg (Itt K a) [it] it (fun i h => h.IsTupleIter it a i) where
  mem := by simp
  obj := fun i h st b hb => by
    have e : b = it := by simpa using hb
    subst e
    obtain ⟨o, e, c, d⟩ := st
    exact ⟨o, e, fun v z => by rw [d] at z; cases z⟩
  keep := fun i h h' st k => st.at fun o e => k it (by simp) o e
  item := by
    intro X hP hw hK hc i pins s σ H E I hf st hg
    subst hP hw hK
    obtain ⟨xs, x, hq, hx⟩ := hg
    obtain ⟨its, rv, p, hz⟩ := I.tuple hq
    obtain ⟨u, hu, ru⟩ := rv.get hx
    obtain ⟨f0, f1, f2, f3, f4, f5⟩ := hf it (by simp)
    refine wpAny_pyNext_tuple_item st (show s.heap.IsTuple a its.toArray from p) (x := u) (by simpa using hu) fun h' st' sb => ?_
    have I1 : Inv X pins σ H { s with heap := h' } := I.turned (t' := s.toks) (fun b o hb e => (sb.2 b hb).trans e) f0 f1 f3 f4 f5
    obtain ⟨o, e, c, d⟩ := id st'
    exact ⟨u, rfl, go_of (s := { s with heap := h' }) e c d (by decide) ⟨x, H, I1, ru, ⟨rfl, fun ys hy => by rw [I.tuple_inj hy hq]; exact hx⟩, st', fun b hb => (hf b hb).1⟩⟩
  done := by
    intro X hP hw hK hc i pins s σ H E I hf st hg
    subst hP hw hK
    obtain ⟨xs, hq, hx⟩ := hg
    obtain ⟨its, rv, p, hz⟩ := I.tuple hq
    obtain ⟨f0, f1, f2, f3, f4, f5⟩ := hf it (by simp)
    have hl := rv.length
    exact wpAny_pyNext_tuple_end (I.ok.hd hc) st (show s.heap.IsTuple a its.toArray from p) (by simp; omega) fun h' eb => ⟨rfl, I.turned (t' := s.toks) (fun b o hb e => eb b o hb e) f0 f1 f3 f4 f5⟩
  self := fun _ _ _ _ _ st h => wpAny_pyIter_tupleiter st h
theorem turn_range {P : Program} {w : World} {K : PySem.W.Frag} {tg : Expr} (it : Addr) (lo : Int) (n : Nat) : Turn P w K tg (Itr lo n) [it] it (fun i h => IsRangeIter h it (lo + (i : Nat) * 1) ((n : Int) - (i : Nat)) 1) where
  mem := by simp
  obj := fun i h st b hb => by
    have e : b = it := by simpa using hb
    subst e
    exact ⟨_, st, fun v z => by
      have z' : Data.fields _ = Data.cell v := z
      cases z'⟩
  keep := fun i h h' st k => k it (by simp) _ st
  item := by
    intro X hP hw hK hc i pins s σ H E I hf st hg
    subst hP hw hK
    obtain ⟨f0, f1, f2, f3, f4, f5⟩ := hf it (by simp)
    have W := Walks.range (prog := X.prog) (w := X.w) (I.ok.hd hc) it lo 1 n
    refine W.item i s _ _ hg st fun v h' tk hv st' kk => ?_
    obtain ⟨t, rfl⟩ := hv
    have I1 : Inv X pins σ H { s with heap := h', toks := tk } := I.turned (fun b o hb e => kk b o (by simpa using hb) e) f0 f1 f3 f4 f5
    refine ⟨_, rfl, go_of (s := { s with heap := h', toks := tk }) (n := "range_iterator") st' rfl rfl (by decide) ⟨.int (lo + i), H, I1, ⟨t, ?_⟩, ⟨rfl, rfl⟩, st', fun b hb => (hf b hb).1⟩⟩
    rw [Int.mul_one]
  done := by
    intro X hP hw hK hc i pins s σ H E I hf st hg
    subst hP hw hK
    obtain ⟨f0, f1, f2, f3, f4, f5⟩ := hf it (by simp)
    exact wpAny_pyNext_range_end (I.ok.hd hc) st (by have : n ≤ i := hg; omega) fun h' eb => ⟨rfl, I.turned (t' := s.toks) (fun b o hb e => eb b o hb e) f0 f1 f3 f4 f5⟩
  self := fun _ _ _ _ _ st h => wpAny_pyIter_rangeiter st h
end L2

namespace L2
open PySem PySem.Spec PyProof.Rows
section
variable {X : Cx} {tg : Expr}
theorem range_it {pins : List (Addr × Obj)} {σ : St} {H : Hp} {s : Shared} {R : It → Hp → Prop} {E : Value → Shared → Prop} {lo hi : Int} {t u v : Tok} {tk : Nat} (I : Inv X pins σ H s) (h1 : -(2 ^ 62) ≤ lo) (h2 : lo < 2 ^ 62) (h3 : -(2 ^ 62) ≤ hi) (h4 : hi < 2 ^ 62)
    (q : R (Itr lo (hi - lo).toNat) H) : wpAny (model X.prog X.w) X.A (pyIter (.ref s.heap.objs.size)) (PIE X pins σ tg R) E { s with heap := s.heap.push { cls := .type "range", data := .fields #[.int lo t, .int hi u, .int 1 v] }, toks := tk } := by
  refine wpAny_pyIter_range (IsRange.new ..) (small_one h1 h2 h3 h4) ?_
  have I1 : Inv X pins σ H { s with heap := s.heap.push { cls := .type "range", data := .fields #[.int lo t, .int hi u, .int 1 v] }, toks := tk } := I.kept fun b o e => Heap.get?_push_of_some _ e
  refine ⟨(s.heap.push { cls := .type "range", data := .fields #[.int lo t, .int hi u, .int 1 v] }).objs.size, [(s.heap.push { cls := .type "range", data := .fields #[.int lo t, .int hi u, .int 1 v] }).objs.size], _, _, H, rfl,
    I1.kept (t' := tk) fun b o e => Heap.get?_push_of_some _ e, turn_range _ lo (hi - lo).toNat, ?_, fun b hb => ?_, q⟩
  · have e1 : lo + ((0 : Nat) : Int) * 1 = lo := by simp
    have e2 : (((hi - lo).toNat : Nat) : Int) - ((0 : Nat) : Int) = Builtin.Range.rangeSize lo hi 1 := by rw [rangeSize_one]; split <;> omega
    show IsRangeIter _ _ (lo + ((0 : Nat) : Int) * 1) ((((hi - lo).toNat : Nat) : Int) - ((0 : Nat) : Int)) 1
    rw [e1, e2]
    exact Heap.get?_push_size _ rfl
  · have e : b = (s.heap.push { cls := .type "range", data := .fields #[.int lo t, .int hi u, .int 1 v] }).objs.size := by simpa using hb
    subst e
    exact I1.fpOk (Nat.le_refl _) (I1.hok.fresh (Nat.le_refl _))
def iRng1 (ta : TA) : TI := fun σ H R => ta σ H fun vs H1 => ∃ j : Int, vs = [.int j] ∧ -(2 ^ 62) ≤ j ∧ j < 2 ^ 62 ∧ R (Itr 0 j.toNat) H1
theorem pi_range1 {a : Expr} {ta : TA} {p pos : Pos} (hg : Gl X "range") (hm : X.mg "range" = none) (ha : PA X [a] ta) (hs : starEach [a] X.env = [(false, eval a X.env)] := by rfl) : PI X tg (.Call (.Name "range" p) [a] [] pos) (iRng1 ta) := by
  intro pins s σ H R I h
  refine Call_ (ld_blt I hg hm boot_range (PyProof.Rows.callWith_type1 (thn (ha pos pins s σ H _ I h) fun us s1 ⟨vs, H1, I1, r1, q1⟩ => ?_) hs rfl))
  obtain ⟨j, e, q1, q2, q⟩ := q1
  subst e
  cases r1 with
  | cons r rr =>
    cases rr
    obtain ⟨t, rfl⟩ := r
    exact call_range_1 (range_it I1 (by omega) (by omega) q1 q2 (by simpa using q))
def tFor (wi : TI) (g : TG) (tb : TS) : TS := fun D σ H => wi σ H fun J H1 => ∃ W : Nat → Nat → St → Hp → Prop, (∃ m, W 0 m σ H1) ∧ ∀ i m σ H, W i m σ H →
  (J.stop i H ∧ D.nx σ H) ∨ (J.go i H ∧ ∃ N : St → Hp → Prop, (∀ σ' H', N σ' H' → ∃ m', m' < m ∧ W (i + 1) m' σ' H') ∧ ∀ x H', J.yld i H x H' → g x σ H' fun σ2 H2 => tb { D with nx := N, ct := N, bk := D.nx } σ2 H2)
def pinsAt (fp : List Addr) (h : Heap) : List (Addr × Obj) := fp.filterMap fun b => (h.get? b).map fun o => (b, o)
theorem mem_pinsAt {fp : List Addr} {h : Heap} {b : Addr} {o : Obj} (hb : b ∈ fp) (e : h.get? b = some o) : (b, o) ∈ pinsAt fp h := List.mem_filterMap.mpr ⟨b, hb, by rw [e]; rfl⟩
theorem of_pinsAt {fp : List Addr} {h : Heap} {p : Addr × Obj} (hp : p ∈ pinsAt fp h) : p.1 ∈ fp ∧ h.get? p.1 = some p.2 := by
  obtain ⟨b, hb, e⟩ := List.mem_filterMap.mp hp
  cases q : h.get? b with
  | none => rw [q] at e; cases e
  | some o =>
    rw [q] at e
    have e' : (b, o) = p := Option.some.inj e
    subst e'
    exact ⟨hb, q⟩
theorem Inv.pinned {pins : List (Addr × Obj)} {σ : St} {H : Hp} {s : Shared} {fp : List Addr} (I : Inv X pins σ H s) (hf : ∀ b ∈ fp, FpOk X pins H b) (ho : ∀ b ∈ fp, ∃ o, s.heap.get? b = some o ∧ ∀ v, o.data ≠ .cell v) : Inv X (pins ++ pinsAt fp s.heap) σ H s :=
  I.pins_of fun p hp => (List.mem_append.mp hp).elim (fun z => I.pin p (List.mem_append_right _ z)) fun z => by
    obtain ⟨hb, e⟩ := of_pinsAt z
    obtain ⟨f0, f1, f2, _⟩ := hf p.1 hb
    obtain ⟨o, e', d⟩ := ho p.1 hb
    rw [e] at e'; cases e'
    exact ⟨e, f0, f1, f2, d⟩
theorem Inv.unpinned {pins pl : List (Addr × Obj)} {σ : St} {H : Hp} {s : Shared} (I : Inv X (pins ++ pl) σ H s) : Inv X pins σ H s := I.pins_of fun p hp => I.pin p (List.mem_append_right _ (List.mem_append_left _ hp))
theorem ps_for {iter : Expr} {body : List Stmt} {wi : TI} {g : TG} {tb : TS} {pos : Pos} (hp : PassesOwn (model X.prog X.w) X.A X.env X.xe) (hc : X.calm = true) (hi : PI X tg iter wi) (hg : PG X tg g) (hb : PSs X body tb)
    (hs : ∀ x, foldedSetIterable iter X.env x = pure x := by intro _; rfl) : PS X (.For tg iter body [] pos) (tFor wi g tb) := by
  intro pins s σ H D I h
  refine wpAny_For (thn (hi pins s σ H _ I h) fun v s1 h1 => thn h1 fun itv s2 h2 => ?_) hs
  obtain ⟨it, fp, tn, J, H2, e, I2, T, st2, f2, W, ⟨m0, w0⟩, turn⟩ := h2
  subst e
  -- what stays true of the iterator's objects through the loop
  have stat : ∀ {H' : Hp}, (∀ b ∈ fp, H' b = none) → ∀ b ∈ fp, FpOk X pins H' b := fun hn b hb => ⟨hn b hb, (f2 b hb).2⟩
  refine codeAny_forLoop_any (fun n s' => ∃ i σ' H', Inv X pins σ' H' s' ∧ tn i s'.heap ∧ (∀ b ∈ fp, H' b = none) ∧ W i n σ' H') ?_ m0 ⟨0, σ, H2, I2, st2, fun b hb => (f2 b hb).1, w0⟩
  rintro n s3 ⟨i, σ3, H3, I3, st3, fr3, w3⟩
  rcases turn i n σ3 H3 w3 with ⟨stop, qn⟩ | ⟨go, N, hN, step⟩
  · refine wpAny_passesOwn hp (thn (T.done X rfl rfl rfl hc i pins s3 σ3 H3 X.xe I3 (stat fr3) st3 stop) fun r s4 ⟨hr, I4⟩ => ?_)
    subst hr
    exact wpAny_execs_nil ⟨σ3, H3, I4, qn⟩
  · refine wpAny_passesOwn hp (thn (T.item X rfl rfl rfl hc i pins s3 σ3 H3 X.xe I3 (stat fr3) st3 go) fun r s4 ⟨u, hr, h4⟩ => ?_)
    subst hr
    refine wpAny_passesOwn hp (thn h4 fun _ s5 ⟨x, H5, I5, r5, y5, st5, fr5⟩ => ?_)
    have I5' := I5.pinned (stat fr5) (T.obj _ _ st5)
    refine wpAny_passesOwn hp (thn (hg _ s5 σ3 H5 x u _ I5' r5 (step x H5 y5)) fun _ s6 ⟨σ6, H6, I6, q6⟩ => ?_)
    refine wpAny_passesOwn hp (thn (hb _ s6 σ6 H6 _ I6 q6) fun f s7 q7 => ?_)
    have again : ∀ {σ7 : St} {H7 : Hp}, Inv X (pins ++ pinsAt fp s5.heap) σ7 H7 s7 → N σ7 H7 → ∃ m, m < n ∧ ∃ i σ' H', Inv X pins σ' H' s7 ∧ tn i s7.heap ∧ (∀ b ∈ fp, H' b = none) ∧ W i m σ' H' := fun {σ7 H7} I7 n7 => by
      obtain ⟨m', hm, w7⟩ := hN σ7 H7 n7
      refine ⟨m', hm, i + 1, σ7, H7, I7.unpinned, T.keep _ _ _ st5 fun b hb o e => (I7.pin (b, o) (List.mem_append_right _ (List.mem_append_right _ (mem_pinsAt hb e)))).1, fun b hb => ?_, w7⟩
      obtain ⟨o, e, d⟩ := T.obj _ _ st5 b hb
      exact (I7.pin (b, o) (List.mem_append_right _ (List.mem_append_right _ (mem_pinsAt hb e)))).2.1
    cases f with
    | next => obtain ⟨σ7, H7, I7, n7⟩ := q7; exact again I7 n7
    | cont => obtain ⟨σ7, H7, I7, n7⟩ := q7; exact again I7 n7
    | brk => obtain ⟨σ7, H7, I7, q7⟩ := q7; exact ⟨σ7, H7, I7.unpinned, q7⟩
    | ret v => obtain ⟨x7, σ7, H7, I7, r7, q7⟩ := q7; exact ⟨x7, σ7, H7, I7.unpinned, r7, q7⟩
end

theorem for_list {K : PySem.W.Frag} {a : Addr} {xs : List V} {g : TG} {tb : TS} {D : Ends} {σ : St} {H : Hp} (Pv : Nat → St → Hp → Prop) (h0 : Pv 0 σ H) (hl : ∀ i σ H, i ≤ xs.length → Pv i σ H → SqL K H a xs)
    (hs : ∀ i x σ H, xs[i]? = some x → Pv i σ H → g x σ H fun σ2 H2 => tb { D with nx := Pv (i + 1), ct := Pv (i + 1), bk := D.nx } σ2 H2) (hd : ∀ σ H, Pv xs.length σ H → D.nx σ H) :
    ∃ W : Nat → Nat → St → Hp → Prop, (∃ m, W 0 m σ H) ∧ ∀ i m σ H, W i m σ H →
      ((Itl K a).stop i H ∧ D.nx σ H) ∨ ((Itl K a).go i H ∧ ∃ N : St → Hp → Prop, (∀ σ' H', N σ' H' → ∃ m', m' < m ∧ W (i + 1) m' σ' H') ∧ ∀ x H', (Itl K a).yld i H x H' → g x σ H' fun σ2 H2 => tb { D with nx := N, ct := N, bk := D.nx } σ2 H2) := by
  refine ⟨fun i m σ H => m = xs.length - i ∧ i ≤ xs.length ∧ Pv i σ H, ⟨xs.length, by simp, Nat.zero_le _, h0⟩, ?_⟩
  rintro i m σ H ⟨rfl, hi, p⟩
  have q := hl i σ H hi p
  by_cases hlt : i < xs.length
  · refine .inr ⟨⟨xs, xs[i], q, by simp [hlt]⟩, Pv (i + 1), fun σ' H' p' => ⟨xs.length - (i + 1), by omega, rfl, hlt, p'⟩, fun x H' y => ?_⟩
    obtain ⟨e, y⟩ := y
    subst e
    exact hs i x σ _ (y xs q) p
  · have e : i = xs.length := by omega
    subst e
    exact .inl ⟨⟨xs, q, Nat.le_refl _⟩, hd σ H p⟩
theorem for_tup {K : PySem.W.Frag} {a : Addr} {xs : List V} {g : TG} {tb : TS} {D : Ends} {σ : St} {H : Hp} (Pv : Nat → St → Hp → Prop) (h0 : Pv 0 σ H) (hl : ∀ i σ H, i ≤ xs.length → Pv i σ H → SqT K H a xs)
    (hs : ∀ i x σ H, xs[i]? = some x → Pv i σ H → g x σ H fun σ2 H2 => tb { D with nx := Pv (i + 1), ct := Pv (i + 1), bk := D.nx } σ2 H2) (hd : ∀ σ H, Pv xs.length σ H → D.nx σ H) :
    ∃ W : Nat → Nat → St → Hp → Prop, (∃ m, W 0 m σ H) ∧ ∀ i m σ H, W i m σ H →
      ((Itt K a).stop i H ∧ D.nx σ H) ∨ ((Itt K a).go i H ∧ ∃ N : St → Hp → Prop, (∀ σ' H', N σ' H' → ∃ m', m' < m ∧ W (i + 1) m' σ' H') ∧ ∀ x H', (Itt K a).yld i H x H' → g x σ H' fun σ2 H2 => tb { D with nx := N, ct := N, bk := D.nx } σ2 H2) := by
  refine ⟨fun i m σ H => m = xs.length - i ∧ i ≤ xs.length ∧ Pv i σ H, ⟨xs.length, by simp, Nat.zero_le _, h0⟩, ?_⟩
  rintro i m σ H ⟨rfl, hi, p⟩
  have q := hl i σ H hi p
  by_cases hlt : i < xs.length
  · refine .inr ⟨⟨xs, xs[i], q, by simp [hlt]⟩, Pv (i + 1), fun σ' H' p' => ⟨xs.length - (i + 1), by omega, rfl, hlt, p'⟩, fun x H' y => ?_⟩
    obtain ⟨e, y⟩ := y
    subst e
    exact hs i x σ _ (y xs q) p
  · have e : i = xs.length := by omega
    subst e
    exact .inl ⟨⟨xs, q, Nat.le_refl _⟩, hd σ H p⟩
theorem for_range {lo : Int} {n : Nat} {g : TG} {tb : TS} {D : Ends} {σ : St} {H : Hp} (Pv : Nat → St → Hp → Prop) (h0 : Pv 0 σ H)
    (hs : ∀ i σ H, i < n → Pv i σ H → g (.int (lo + i)) σ H fun σ2 H2 => tb { D with nx := Pv (i + 1), ct := Pv (i + 1), bk := D.nx } σ2 H2) (hd : ∀ σ H, Pv n σ H → D.nx σ H) :
    ∃ W : Nat → Nat → St → Hp → Prop, (∃ m, W 0 m σ H) ∧ ∀ i m σ H, W i m σ H →
      ((Itr lo n).stop i H ∧ D.nx σ H) ∨ ((Itr lo n).go i H ∧ ∃ N : St → Hp → Prop, (∀ σ' H', N σ' H' → ∃ m', m' < m ∧ W (i + 1) m' σ' H') ∧ ∀ x H', (Itr lo n).yld i H x H' → g x σ H' fun σ2 H2 => tb { D with nx := N, ct := N, bk := D.nx } σ2 H2) := by
  refine ⟨fun i m σ H => m = n - i ∧ i ≤ n ∧ Pv i σ H, ⟨n, by simp, Nat.zero_le _, h0⟩, ?_⟩
  rintro i m σ H ⟨rfl, hi, p⟩
  by_cases hlt : i < n
  · refine .inr ⟨hlt, Pv (i + 1), fun σ' H' p' => ⟨n - (i + 1), by omega, rfl, hlt, p'⟩, fun x H' y => ?_⟩
    obtain ⟨e, y⟩ := y
    subst e y
    exact hs i σ _ hlt p
  · have e : i = n := by omega
    subst e
    exact .inl ⟨Nat.le_refl _, hd σ H p⟩
end L2

namespace L2
open PySem PySem.Spec PyProof.Rows

abbrev R2 := V → V → Hp → VK → Prop
def OpR (X : Cx) (f : Value → Value → Sem Value) (r : R2) : Prop :=
  ∀ (pins : List (Addr × Obj)) (s : Shared) (σ : St) (H : Hp) (x y : V) (v u : Value) (Q : VK), Inv X pins σ H s → RelV x v → RelV y u → r x y H Q →
    wpAny (model X.prog X.w) X.A (f v u) (EP X pins σ Q) X.xe s
def CallR (X : Cx) (f : Value) (r : List V → Hp → VK → Prop) : Prop :=
  ∀ (pins : List (Addr × Obj)) (s : Shared) (σ : St) (H : Hp) (xs : List V) (us : List Value) (Q : VK), Inv X pins σ H s → Vals xs us → r xs H Q →
    wpAny (model X.prog X.w) X.A (call f us) (EP X pins σ Q) X.xe s
def TruR (X : Cx) (r : V → Hp → (Bool → Hp → Prop) → Prop) : Prop :=
  ∀ (pins : List (Addr × Obj)) (s : Shared) (σ : St) (H : Hp) (x : V) (v : Value) (Q : Bool → Hp → Prop), Inv X pins σ H s → RelV x v → r x H Q →
    wpAny (model X.prog X.w) X.A (truthy v) (TP X pins σ Q) X.xe s

def tOp (r : R2) (ta tb : TE) : TE := fun σ H Q => ta σ H fun x H1 => tb σ H1 fun y H2 => r x y H2 Q
def rI (C : Int → Int → Prop) (g : Int → Int → V) : R2 := fun x y H Q => ∃ i j, x = .int i ∧ y = .int j ∧ C i j ∧ Q (g i j) H
def rI0 (g : Int → Int → V) : R2 := fun x y H Q => ∃ i j, x = .int i ∧ y = .int j ∧ Q (g i j) H
section
variable {X : Cx} {a b c : Expr} {ta tb tc : TE} {pos : Pos}

theorem binT (ha : PE X a ta) (hb : PE X b tb) {pins : List (Addr × Obj)} {s : Shared} {σ : St} {H : Hp} {R : V → V → Hp → Prop} (I : Inv X pins σ H s)
    (h : ta σ H fun x H1 => tb σ H1 fun y H2 => R x y H2) {Q : Value → Shared → Prop} {f : Value → Value → Sem Value}
    (hf : ∀ v u s2 x y H2, Inv X pins σ H2 s2 → RelV x v → RelV y u → R x y H2 → wpAny (model X.prog X.w) X.A (f v u) Q X.xe s2) :
    wpAny (model X.prog X.w) X.A (eval a X.env) (fun v s₁ => wpAny (model X.prog X.w) X.A (eval b X.env) (fun u s₂ => wpAny (model X.prog X.w) X.A (f v u) Q X.xe s₂) X.xe s₁) X.xe s := by
  refine thn (ha pins s σ H _ I h) fun v s1 ⟨x, H1, I1, r1, q1⟩ => ?_
  refine thn (hb pins s1 σ H1 _ I1 q1) fun u s2 ⟨y, H2, I2, r2, q2⟩ => ?_
  exact hf v u s2 x y H2 I2 r1 r2 q2

theorem pe_op {op : Operator} {r : R2} (ho : OpR X (binaryOp op) r) (ha : PE X a ta) (hb : PE X b tb) : PE X (.BinOp a op b pos) (tOp r ta tb) := by
  intro pins s σ H Q I h
  exact wpAny_BinOp (binT ha hb I h fun v u s2 x y H2 I2 rx ry q => ho pins s2 σ H2 x y v u Q I2 rx ry q)
theorem opI {f : Value → Value → Sem Value} {C : Int → Int → Prop} {g : Int → Int → Int}
    (rule : ∀ (i j : Int) (t u : Tok) (s : Shared) (Q : Value → Shared → Prop) (E : Value → Shared → Prop), C i j → Q (.int (g i j) s.toks) { s with toks := s.toks + 1 } → wpAny (model X.prog X.w) X.A (f (.int i t) (.int j u)) Q E s) :
    OpR X f (rI C fun i j => .int (g i j)) := by
  intro pins s σ H x y v u Q I rx ry h
  obtain ⟨i, j, rfl, rfl, hc, q⟩ := h
  obtain ⟨t, rfl⟩ := rx
  obtain ⟨t', rfl⟩ := ry
  exact rule i j t t' s _ _ hc ⟨.int (g i j), H, I.tok _, ⟨_, rfl⟩, q⟩
theorem opI0 {f : Value → Value → Sem Value} {g : Int → Int → Int}
    (rule : ∀ (i j : Int) (t u : Tok) (s : Shared) (Q : Value → Shared → Prop) (E : Value → Shared → Prop), Q (.int (g i j) s.toks) { s with toks := s.toks + 1 } → wpAny (model X.prog X.w) X.A (f (.int i t) (.int j u)) Q E s) :
    OpR X f (rI0 fun i j => .int (g i j)) := by
  intro pins s σ H x y v u Q I rx ry h
  obtain ⟨i, j, rfl, rfl, q⟩ := h
  obtain ⟨t, rfl⟩ := rx
  obtain ⟨t', rfl⟩ := ry
  exact rule i j t t' s _ _ ⟨.int (g i j), H, I.tok _, ⟨_, rfl⟩, q⟩
theorem opB0 {f : Value → Value → Sem Value} {g : Int → Int → Bool}
    (rule : ∀ (i j : Int) (t u : Tok) (s : Shared) (Q : Value → Shared → Prop) (E : Value → Shared → Prop), Q (.bool (g i j)) s → wpAny (model X.prog X.w) X.A (f (.int i t) (.int j u)) Q E s) :
    OpR X f (rI0 fun i j => .bl (g i j)) := by
  intro pins s σ H x y v u Q I rx ry h
  obtain ⟨i, j, rfl, rfl, q⟩ := h
  obtain ⟨t, rfl⟩ := rx
  obtain ⟨t', rfl⟩ := ry
  exact rule i j t t' s _ _ ⟨.bl (g i j), H, I, rfl, q⟩

def CDiv (i j : Int) : Prop := 0 < j ∧ j < 1073741824
def CMul (i j : Int) : Prop := (-(2 ^ 64) < i ∧ i < 2 ^ 64) ∨ (-(2 ^ 64) < j ∧ j < 2 ^ 64)
theorem CMul.ok {i j : Int} (h : CMul i j) : IntMulOk i j := by
  rcases h with ⟨h1, h2⟩ | ⟨h1, h2⟩
  · exact .of_left (intBits_le_64 h1 h2)
  · exact .of_right (intBits_le_64 h1 h2)
theorem op_add : OpR X (binaryOp .Add) (rI0 fun i j => .int (i + j)) := opI0 fun _ _ _ _ _ _ _ q => add_int q
theorem op_fdiv : OpR X (binaryOp .FloorDiv) (rI CDiv fun i j => .int (i / j)) := opI fun i j _ _ _ _ _ hc q => by
  have h1 : (0 : Int) < j := hc.1
  have h2 : j < 1073741824 := hc.2
  exact floordiv_int (by omega) (by rw [Int.fdiv_eq_ediv_of_nonneg i (by omega)]; exact q) (.inl (PyProof.noPylong_small (by omega)))
theorem op_mod : OpR X (binaryOp .Mod) (rI (fun _ j => 0 < j) fun i j => .int (i % j)) := opI fun i j _ _ _ _ _ hc q => by
  have h1 : (0 : Int) < j := hc
  exact mod_int' (by omega) (by rw [Int.fmod_eq_emod_of_nonneg i (by omega)]; exact q)
end

def scal : V → V → Bool
  | .non, .non => true | .non, .int _ => true | .int _, .non => true | .non, .bl _ => true | .bl _, .non => true | .non, .str _ => true | .str _, .non => true
  | .int _, .int _ => true | .bl _, .bl _ => true | .str _, .str _ => true | .byt _, .byt _ => true
  | .int _, .str _ => true | .str _, .int _ => true | .bl _, .str _ => true | .str _, .bl _ => true
  | _, _ => false
def rEq : R2 := fun x y H Q => scal x y = true ∧ Q (.bl (decide (x = y))) H
def rNe : R2 := fun x y H Q => scal x y = true ∧ Q (.bl (!decide (x = y))) H

theorem dec_int {i j : Int} : decide (V.int i = V.int j) = (i == j) := by
  rw [Bool.eq_iff_iff]
  simp
theorem dec_bl {i j : Bool} : decide (V.bl i = V.bl j) = (i == j) := by
  rw [Bool.eq_iff_iff]
  simp
theorem dec_str {i j : Str} : decide (V.str i = V.str j) = (i == j) := by
  rw [Bool.eq_iff_iff]
  simp
theorem dec_byt {i j : Array UInt8} : decide (V.byt i = V.byt j) = (i.toList == j.toList) := by
  rw [Bool.eq_iff_iff]
  cases i
  cases j
  simp

section
variable {X : Cx} {a b c : Expr} {ta tb tc : TE} {pos : Pos}
theorem fin_bl {pins : List (Addr × Obj)} {σ : St} {H : Hp} {s : Shared} {Q : VK} {k k' : Bool} (I : Inv X pins σ H s) (q : Q (.bl k) H) (e : k = k') : EP X pins σ Q (.bool k') s := by
  subst e
  exact ⟨.bl k, H, I, rfl, q⟩
theorem op_eq : OpR X (compareOp .Eq) rEq := by
  intro pins s σ H x y v u Q I rx ry h
  obtain ⟨hs, q⟩ := h
  cases x with
  | non =>
    cases rx
    cases y with
    | non => cases ry; exact PySem.EqNone.eq_none_none (fin_bl I q (by simp))
    | bl j => cases ry; exact PySem.EqNone.eq_none_bool (fin_bl I q (by simp))
    | int j => obtain ⟨t', rfl⟩ := ry; exact PySem.EqNone.eq_none_int (fin_bl I q (by simp))
    | str j => obtain ⟨t', rfl⟩ := ry; exact PySem.EqNone.eq_none_str (fin_bl I q (by simp))
    | _ => exact absurd (show false = true from hs) Bool.false_ne_true
  | bl i =>
    cases rx
    cases y with
    | non => cases ry; exact PySem.EqNone.eq_bool_none (fin_bl I q (by simp))
    | bl j => cases ry; exact eq_bool (fin_bl I q dec_bl)
    | str j => obtain ⟨t', rfl⟩ := ry; exact PySem.EqMixed.eq_bool_str (fin_bl I q (by simp))
    | _ => exact absurd (show false = true from hs) Bool.false_ne_true
  | int i =>
    obtain ⟨t, rfl⟩ := rx
    cases y with
    | non => cases ry; exact PySem.EqNone.eq_int_none (fin_bl I q (by simp))
    | int j => obtain ⟨t', rfl⟩ := ry; exact eq_int (fin_bl I q dec_int)
    | str j => obtain ⟨t', rfl⟩ := ry; exact PySem.EqMixed.eq_int_str (fin_bl I q (by simp))
    | _ => exact absurd (show false = true from hs) Bool.false_ne_true
  | str i =>
    obtain ⟨t, rfl⟩ := rx
    cases y with
    | non => cases ry; exact PySem.EqNone.eq_str_none (fin_bl I q (by simp))
    | bl j => cases ry; exact PySem.EqMixed.eq_str_bool (fin_bl I q (by simp))
    | int j => obtain ⟨t', rfl⟩ := ry; exact PySem.EqMixed.eq_str_int (fin_bl I q (by simp))
    | str j => obtain ⟨t', rfl⟩ := ry; exact eq_str (fin_bl I q dec_str)
    | _ => exact absurd (show false = true from hs) Bool.false_ne_true
  | byt i =>
    obtain ⟨t, rfl⟩ := rx
    cases y with
    | byt j => obtain ⟨t', rfl⟩ := ry; exact PySem.W.eq_bytes (fin_bl I q dec_byt)
    | _ => exact absurd (show false = true from hs) Bool.false_ne_true
  | _ => cases y <;> exact absurd (show false = true from hs) Bool.false_ne_true
theorem op_ne : OpR X (compareOp .NotEq) rNe := by
  intro pins s σ H x y v u Q I rx ry h
  obtain ⟨hs, q⟩ := h
  cases x with
  | non =>
    cases rx
    cases y with
    | non => cases ry; exact PySem.EqNone.ne_none_none (fin_bl I q (by simp))
    | bl j => cases ry; exact PySem.EqNone.ne_none_bool (fin_bl I q (by simp))
    | int j => obtain ⟨t', rfl⟩ := ry; exact PySem.EqNone.ne_none_int (fin_bl I q (by simp))
    | str j => obtain ⟨t', rfl⟩ := ry; exact PySem.EqNone.ne_none_str (fin_bl I q (by simp))
    | _ => exact absurd (show false = true from hs) Bool.false_ne_true
  | bl i =>
    cases rx
    cases y with
    | non => cases ry; exact PySem.EqNone.ne_bool_none (fin_bl I q (by simp))
    | bl j => cases ry; exact ne_bool (fin_bl I q (congrArg not dec_bl))
    | str j => obtain ⟨t', rfl⟩ := ry; exact PySem.EqMixed.ne_bool_str (fin_bl I q (by simp))
    | _ => exact absurd (show false = true from hs) Bool.false_ne_true
  | int i =>
    obtain ⟨t, rfl⟩ := rx
    cases y with
    | non => cases ry; exact PySem.EqNone.ne_int_none (fin_bl I q (by simp))
    | int j => obtain ⟨t', rfl⟩ := ry; exact ne_int (fin_bl I q (congrArg not dec_int))
    | str j => obtain ⟨t', rfl⟩ := ry; exact PySem.EqMixed.ne_int_str (fin_bl I q (by simp))
    | _ => exact absurd (show false = true from hs) Bool.false_ne_true
  | str i =>
    obtain ⟨t, rfl⟩ := rx
    cases y with
    | non => cases ry; exact PySem.EqNone.ne_str_none (fin_bl I q (by simp))
    | bl j => cases ry; exact PySem.EqMixed.ne_str_bool (fin_bl I q (by simp))
    | int j => obtain ⟨t', rfl⟩ := ry; exact PySem.EqMixed.ne_str_int (fin_bl I q (by simp))
    | str j => obtain ⟨t', rfl⟩ := ry; exact ne_str (fin_bl I q (congrArg not dec_str))
    | _ => exact absurd (show false = true from hs) Bool.false_ne_true
  | byt i =>
    obtain ⟨t, rfl⟩ := rx
    cases y with
    | byt j => obtain ⟨t', rfl⟩ := ry; exact PySem.W.ne_bytes (fin_bl I q (congrArg not dec_byt))
    | _ => exact absurd (show false = true from hs) Bool.false_ne_true
  | _ => cases y <;> exact absurd (show false = true from hs) Bool.false_ne_true

theorem op_lt : OpR X (compareOp .Lt) (rI0 fun i j => .bl (decide (i < j))) := opB0 fun _ _ _ _ _ _ _ q => lt_int q
theorem op_gt : OpR X (compareOp .Gt) (rI0 fun i j => .bl (decide (j < i))) := opB0 fun _ _ _ _ _ _ _ q => gt_int q
theorem op_isN : OpR X (compareOp .Is) (fun x y H Q => y = .non ∧ Q (.bl (decide (x = .non))) H) := by
  intro pins s σ H x y v u Q I rx ry h
  obtain ⟨rfl, q⟩ := h
  cases ry
  refine is_none_gen (fin_bl I q ?_)
  cases x <;> first
    | (cases rx; rfl)
    | (obtain ⟨t, rfl⟩ := rx; rfl)
theorem OpR.or {f : Value → Value → Sem Value} {r r' : R2} (h : OpR X f r) (h' : OpR X f r') : OpR X f (fun x y H Q => r x y H Q ∨ r' x y H Q) := by
  intro pins s σ H x y v u Q I rx ry q
  rcases q with q | q
  · exact h pins s σ H x y v u Q I rx ry q
  · exact h' pins s σ H x y v u Q I rx ry q

theorem nomark (b : Expr) {op : CmpOp} (h : op ≠ .In := by decide) (h2 : op ≠ .NotIn := by decide) : behindInMarks op b = false := by
  have e1 : (op == CmpOp.In) = false := by cases op <;> first | rfl | exact absurd rfl h
  have e2 : (op == CmpOp.NotIn) = false := by cases op <;> first | rfl | exact absurd rfl h2
  cases b <;> simp [behindInMarks, e1, e2]
theorem pe_cmpR {op : CmpOp} {r : R2} (ho : OpR X (compareOp op) r) (ha : PE X a ta) (hb : PE X b tb) (hm : behindInMarks op b = false) : PE X (.Compare a [op] [b] pos) (tOp r ta tb) := by
  intro pins s σ H Q I h
  exact wpAny_Compare1 (binT ha hb I h fun v u s2 x y H2 I2 rx ry q => ho pins s2 σ H2 x y v u Q I2 rx ry q) hm
def TruV (K : PySem.W.Frag) (x : V) (H : Hp) (k : Bool) : Prop :=
  match x with
  | .non => k = false
  | .bl b => k = b
  | .int i => k = (i != 0)
  | .str y => y.length ≤ sizeLine ∧ k = ((y.length : Int) != 0)
  | .byt y => y.size ≤ sizeLine ∧ k = ((y.size : Int) != 0)
  | .ref p => (∃ xs, SqL K H p xs ∧ k = !xs.isEmpty) ∨ (∃ xs, SqT K H p xs ∧ k = !xs.isEmpty) ∨ ∃ kvs, H p = some (.dK kvs) ∧ k = !kvs.isEmpty
  | _ => False
theorem isEmpty_kv {κ : Type} {kvs : List (κ × V)} {vs : List (κ × Value)} (r : KV kvs vs) : (!vs.isEmpty) = !kvs.isEmpty := by
  cases r <;> rfl
theorem isEmpty_of {xs : List V} {its : List Value} (r : Vals xs its) : (!its.toArray.isEmpty) = !xs.isEmpty := by
  cases r <;> simp
theorem line63 : (sizeLine : Nat) < 2 ^ 63 := by rw [sizeLine_eq]; decide
theorem tru_ok : TruR X (fun x H Q => ∃ k, TruV X.K x H k ∧ Q k H) := by
  intro pins s σ H x v Q I rx h
  obtain ⟨k, e, q⟩ := h
  have hl := line63
  have hs : sizeLine = 16777216 := sizeLine_eq
  cases x with
  | non =>
    cases rx
    have e' : k = false := e
    subst e'
    exact truthy_none ⟨H, I, q⟩
  | bl b =>
    cases rx
    have e' : k = b := e
    subst e'
    exact wpAny_truthy_bool ⟨H, I, q⟩
  | int i =>
    obtain ⟨t, rfl⟩ := rx
    have e' : k = (i != 0) := e
    subst e'
    exact PySem.P.truthy_int ⟨H, I, q⟩
  | str y =>
    obtain ⟨t, rfl⟩ := rx
    obtain ⟨hy, e'⟩ : y.length ≤ sizeLine ∧ k = ((y.length : Int) != 0) := e
    subst e'
    exact PySem.P.truthy_str (by omega) ⟨H, I.tok _, q⟩
  | byt y =>
    obtain ⟨t, rfl⟩ := rx
    obtain ⟨hy, e'⟩ : y.size ≤ sizeLine ∧ k = ((y.size : Int) != 0) := e
    subst e'
    exact PySem.W.truthy_bytes (by omega) ⟨H, I.tok _, q⟩
  | ref p =>
    cases rx
    have e' : (∃ xs, SqL X.K H p xs ∧ k = !xs.isEmpty) ∨ (∃ xs, SqT X.K H p xs ∧ k = !xs.isEmpty) ∨ ∃ kvs, H p = some (.dK kvs) ∧ k = !kvs.isEmpty := e
    rcases e' with ⟨xs, hx, e'⟩ | ⟨xs, hx, e'⟩ | ⟨kvs, hx, e'⟩
    · subst e'
      obtain ⟨its, r, pl, hz⟩ := I.list hx
      have hlen := r.length
      exact wpAny_truthy_list pl.isList (by simp only [List.size_toArray]; omega) ⟨H, I.tok _, by rw [isEmpty_of r]; exact q⟩
    · subst e'
      obtain ⟨its, r, pl, hz⟩ := I.tuple hx
      have hlen := r.length
      exact truthy_tuple pl (by simp only [List.size_toArray]; omega) ⟨H, I.tok _, by rw [isEmpty_of r]; exact q⟩
    · subst e'
      obtain ⟨hz, hS, vs, r, m⟩ : kvs.length ≤ sizeLine ∧ (p == sysModules) = false ∧ ∃ vs, KV kvs vs ∧ s.heap.DictOf (mixKind X.prog X.w) p vs := I.hok p _ hx
      have hlen : kvs.length = vs.length := Paired.length r
      exact wpAny_truthy_dict hS m (by omega) ⟨H, I.tok _, by rw [isEmpty_kv r]; exact q⟩
  | _ => exact (show False from e).elim
theorem op_add_str : OpR X (binaryOp .Add) (fun x y H Q => ∃ i j, x = .str i ∧ y = .str j ∧ i.length + j.length ≤ sizeLine ∧ Q (.str (i ++ j)) H) := by
  intro pins s σ H x y v u Q I rx ry h
  obtain ⟨i, j, rfl, rfl, hz, q⟩ := h
  obtain ⟨t, rfl⟩ := rx
  obtain ⟨t', rfl⟩ := ry
  exact add_str (fun t' tk => ⟨.str (i ++ j), H, I.tok _, ⟨_, rfl⟩, q⟩) hz
theorem vals1 {x : V} {us : List Value} (r : Vals [x] us) : ∃ u, us = [u] ∧ RelV x u := by
  cases r with
  | cons r1 r2 => cases r2; exact ⟨_, rfl, r1⟩
theorem vals2 {x y : V} {us : List Value} (r : Vals [x, y] us) : ∃ u w', us = [u, w'] ∧ RelV x u ∧ RelV y w' := by
  cases r with
  | cons r1 r2 =>
    cases r2 with
    | cons r3 r4 => cases r4; exact ⟨_, _, rfl, r1, r3⟩
theorem call_str_int : CallR X (.type "str") (fun xs H Q => ∃ i, xs = [.int i] ∧ i.natAbs.log2 < 1920 ∧ Q (.str (toString i)) H) := by
  intro pins s σ H xs us Q I r h
  obtain ⟨i, rfl, hz, q⟩ := h
  obtain ⟨u, rfl, t, rfl⟩ := vals1 r
  exact PySem.P.str_of_int hz ⟨.str _, H, I.tok _, ⟨_, rfl⟩, q⟩
theorem call_ord : CallR X (.builtin "ord") (fun xs H Q => ∃ x, xs = [.str x] ∧ x.length = 1 ∧ Q (.int (x.cps.getD 0 0 : Nat)) H) := by
  intro pins s σ H xs us Q I r h
  obtain ⟨x, rfl, hz, q⟩ := h
  obtain ⟨u, rfl, t, rfl⟩ := vals1 r
  exact ord_of_one hz ⟨.int _, H, I.tok _, ⟨_, rfl⟩, q⟩
def LenV (K : PySem.W.Frag) (x : V) (H : Hp) (n : Nat) : Prop :=
  match x with
  | .str y => y.length ≤ sizeLine ∧ n = y.length
  | .byt y => y.size ≤ sizeLine ∧ n = y.size
  | .ref p => (∃ xs, SqL K H p xs ∧ n = xs.length) ∨ ∃ xs, SqT K H p xs ∧ n = xs.length
  | _ => False
theorem call_len : CallR X (.builtin "len") (fun xs H Q => ∃ x n, xs = [x] ∧ LenV X.K x H n ∧ Q (.int n) H) := by
  intro pins s σ H xs us Q I r h
  obtain ⟨x, n, rfl, e, q⟩ := h
  obtain ⟨u, rfl, rx⟩ := vals1 r
  have hl := line63
  have hs : sizeLine = 16777216 := sizeLine_eq
  cases x with
  | str y =>
    obtain ⟨t, rfl⟩ := rx
    obtain ⟨hy, e'⟩ : y.length ≤ sizeLine ∧ n = y.length := e
    subst e'
    exact len_str (by omega) ⟨.int _, H, I.tok _, ⟨_, rfl⟩, q⟩
  | byt y =>
    obtain ⟨t, rfl⟩ := rx
    obtain ⟨hy, e'⟩ : y.size ≤ sizeLine ∧ n = y.size := e
    subst e'
    exact PySem.W.len_bytes (by omega) ⟨.int _, H, I.tok _, ⟨_, rfl⟩, q⟩
  | ref p =>
    cases rx
    have e' : (∃ xs, SqL X.K H p xs ∧ n = xs.length) ∨ ∃ xs, SqT X.K H p xs ∧ n = xs.length := e
    rcases e' with ⟨xs, hx, e'⟩ | ⟨xs, hx, e'⟩
    · subst e'
      obtain ⟨its, r', pl, hz⟩ := I.list hx
      have hlen := r'.length
      exact Calls.call_len_list pl.isList (by simp only [List.size_toArray]; omega) ⟨.int xs.length, H, I.tok _, ⟨_, by simp only [List.size_toArray]; rw [hlen]⟩, q⟩
    · subst e'
      obtain ⟨its, r', pl, hz⟩ := I.tuple hx
      have hlen := r'.length
      exact len_tuple pl (by simp only [List.size_toArray]; omega) ⟨.int xs.length, H, I.tok _, ⟨_, by simp only [List.size_toArray]; rw [hlen]⟩, q⟩
  | _ => exact (show False from e).elim
end
end L2

namespace L2
open PySem PySem.Spec PyProof.Rows

structure ObjM (h : Heap) (x dx C : Addr) (mA : Str → Option Value) : Prop where
  obj : h.get? x = some (PySem.W.instObj C dx)
  ns : h.Ns1 dx mA
  ne : dx ≠ x

theorem lookIn_ns {h : Heap} {dx : Addr} {mA : Str → Option Value} (n : h.Ns1 dx mA) : ∃ od, h.get? dx = some od ∧ ∀ name, PySem.W.lookIn name od = some (mA name) := by
  obtain ⟨o, es, ep, ho, hd, hk, _, hm⟩ := n
  refine ⟨o, ho, fun name => ?_⟩
  have e := hm name
  unfold nsFind findBy at e
  rw [← Array.find?_toList] at e
  unfold PySem.W.lookIn
  rw [hd]
  dsimp only
  split
  · rename_i y q
    rw [q] at e
    exact congrArg some e
  · rename_i q
    rw [q] at e
    have a : es.toList.any (·.refKey) = false := by
      rw [List.any_eq_false]
      intro y hy
      obtain ⟨z, t, hkey⟩ := hk y (Array.mem_toList_iff.mp hy)
      simp [DictEntry.refKey, hkey]
    have a' : ¬ es.toList.any (·.refKey) = true := by rw [a]; exact Bool.false_ne_true
    rw [if_neg a']
    exact congrArg some e

theorem ObjM.look {h : Heap} {x dx C : Addr} {mA : Str → Option Value} (I : ObjM h x dx C mA) : ∃ od, PySem.W.InstAt h x (PySem.W.instObj C dx) C (some od) ∧ ∀ name, PySem.W.lookIn name od = some (mA name) :=
  let ⟨od, ho, hl⟩ := lookIn_ns I.ns
  ⟨od, ⟨I.obj, rfl, rfl, ho⟩, hl⟩

section
variable {prog : Program} {w : World} {A : Around} {E : Value → Shared → Prop} {s : Shared} {K : PySem.W.Frag} {x dx C f : Addr} {mA : Str → Option Value} {name : Str} {v : Value}

end

theorem RelO.some_of {v : V} {o : Option Value} (r : RelO (some v) o) : ∃ u, o = some u ∧ RelV v u := by
  cases o with
  | none => exact (show False from r).elim
  | some u => exact ⟨u, rfl, r⟩
theorem RelO.none_of {o : Option Value} (r : RelO none o) : o = none := by
  cases o with
  | none => rfl
  | some u => exact (show False from r).elim
section
variable {P : Program} {w : World} {H H' : Hp} {h h' : Heap} {a C dx : Addr} {fs fs' : List (Str × V)}
theorem ins_get (hok : HOk P w H h) (e : H a = some (.ins C dx fs)) : ∃ mA, ObjM h a dx C mA ∧ (∀ f, RelO (fs.lookup f) (mA f)) ∧ PySem.Within mA (fs.map (·.1)) ∧ fs.length ≤ 1000 ∧ H dx = some (.own a) := by
  obtain ⟨d, z, ne, ob, mA, n, r, q⟩ := (show ObjOk P w H h a (.ins C dx fs) from hok a _ e)
  exact ⟨mA, ⟨ob, n, ne⟩, r, q, z, d⟩
end

structure Cls (K : PySem.W.Frag) (C : Addr) : Prop where
  pg : PySem.W.plainGet K C Str.empty = true
  hd : PySem.W.hasDictIn K C = true
  po : PySem.W.plainOver K C = true
  sa : PySem.W.findIn K (.ref C) "__setattr__" = some (some (.builtin "object.__setattr__"))
theorem Cls.get {K : PySem.W.Frag} {C : Addr} (c : Cls K C) (f : Str) : PySem.W.plainGet K C f = true := c.pg
structure Con (K : PySem.W.Frag) (C : Addr) (f : Str) (v : V) (u : Value) : Prop where
  at_ : PySem.W.findIn K (.ref C) f = some (some u)
  rel : RelV v u
  get : PySem.W.specialIn K u "__get__" = some none
  cp : PySem.W.copiedNames.contains f = false
structure Meth (K : PySem.W.Frag) (C : Addr) (m : Str) (f : Addr) : Prop where
  at_ : PySem.W.findIn K (.ref C) m = some (some (.ref f))
  fn : PySem.W.isFn K (.ref f) = true
  kp : PySem.W.keepIn K (.ref f) = true

section
variable {X : Cx} {pins : List (Addr × Obj)} {σ : St} {H : Hp} {s : Shared} {a C dx : Addr} {fs : List (Str × V)} {f : Str} {v : V} {A : Around} {E : Value → Shared → Prop}

theorem Inv.made (I : Inv X pins σ H s) : Inv X pins σ (upd (upd H s.heap.objs.size (.own (s.heap.objs.size + 1))) (s.heap.objs.size + 1) (.ins C s.heap.objs.size []))
    { s with heap := (s.heap.push PySem.W.emptyDict).push (PySem.W.instObj C s.heap.objs.size) } := by
  have e1 : (s.heap.push PySem.W.emptyDict).get? s.heap.objs.size = some PySem.W.emptyDict := Heap.get?_push_size s.heap rfl
  have e2 : ((s.heap.push PySem.W.emptyDict).push (PySem.W.instObj C s.heap.objs.size)).get? (s.heap.objs.size + 1) = some (PySem.W.instObj C s.heap.objs.size) := by
    have := Heap.get?_push_size (s.heap.push PySem.W.emptyDict) (o := PySem.W.instObj C s.heap.objs.size) rfl
    rwa [Heap.size_push] at this
  have e3 : (s.heap.push PySem.W.emptyDict).Ns s.heap.objs.size (fun _ => none) := ⟨PySem.W.emptyDict, #[], _, e1, rfl, (fun e he => absurd he (by simp)), fun _ => rfl⟩
  have I1 := I.laid (a := s.heap.objs.size) (o := .own (s.heap.objs.size + 1)) (h' := s.heap.push PySem.W.emptyDict) (t' := s.toks) (fun b u q => Heap.get?_push_of_some _ q) (Nat.le_refl _) ⟨_, e1⟩
  refine I1.laid (a := s.heap.objs.size + 1) (o := .ins C s.heap.objs.size []) (t' := s.toks) (fun b u q => Heap.get?_push_of_some _ q) (Nat.le_of_eq (Heap.size_push _ _)) ?_
  have ne : s.heap.objs.size ≠ s.heap.objs.size + 1 := Nat.ne_of_lt (Nat.lt_succ_self _)
  refine ⟨by rw [upd_ne ne, upd_same], Nat.zero_le _, ne, e2, fun _ => none, (Heap.Ns1.of_empty e3).at fun o q => Heap.get?_push_of_some _ q, fun _ => True.intro, fun y hy => absurd rfl hy⟩

end

section
variable {X : Cx} {o e value : Expr} {f : Str} {pos pos' tpos : Pos} {ta tv : TE}
end

section
variable {X : Cx} {pins : List (Addr × Obj)} {σ : St} {H : Hp} {s : Shared} {A : Around} {E : Value → Shared → Prop} {Q : Value → Shared → Prop} {c : Value} {b : Bool}
inductive TyOf (K : PySem.W.Frag) (H : Hp) : V → Value → Prop where
  | non : TyOf K H .non (.type "NoneType")
  | bl (x : Bool) : TyOf K H (.bl x) (.type "bool")
  | int (i : Int) : TyOf K H (.int i) (.type "int")
  | str (x : Str) : TyOf K H (.str x) (.type "str")
  | flt (x : UInt64) : TyOf K H (.flt x) (.type "float")
  | lst {a : Addr} {xs : List V} (e : H a = some (.lst xs)) : TyOf K H (.ref a) (.type "list")
  | frz {a : Addr} {o : Obj} {xs : List V} (e : H a = some (.frz o (.lst xs))) : TyOf K H (.ref a) (.type "list")
  | tup {a : Addr} {xs : List V} (e : H a = some (.tup xs)) : TyOf K H (.ref a) (.type "tuple")
  | dK {a : Addr} {kvs : List (Key × V)} (e : H a = some (.dK kvs)) : TyOf K H (.ref a) (.type "dict")
  | dT {a : Addr} {kvs : List (List Key × V)} (e : H a = some (.dT kvs)) : TyOf K H (.ref a) (.type "dict")
  | ins {a C dx : Addr} {fs : List (Str × V)} (e : H a = some (.ins C dx fs)) (cl : Cls K C) (ha : PySem.W.findIn K (.ref C) "__class__" = some (some (.builtin "object.__class__")))
      (hn : PySem.W.specialIn K (.builtin "object.__class__") "__get__" = some (some (.builtin "getset_descriptor.__get__"))) (htk : PySem.W.takesIn K (.builtin "object.__class__") = some true)
      (hm : PySem.W.mroIn K C (.type "object") = some true) : TyOf K H (.ref a) (.ref C)
theorem isinst_ok {x : V} {u t : Value} (I : Inv X pins σ H s) (rx : RelV x u) (ty : TyOf X.K H x t) (e : PySem.W.kitOne X.K t c = some b) (h : ∀ tk, Q (.bool b) { s with toks := tk }) :
    wpAny (model X.prog X.w) A (call (.builtin "isinstance") [u, c]) Q E s := by
  cases ty with
  | non => cases (show u = Value.none from rx); exact PySem.W.kia_one PySem.W.kitx_none I.kIn True.intro e (fun z => nomatch z) h
  | bl y => cases (show u = Value.bool y from rx); exact PySem.W.kia_one PySem.W.kitx_bool I.kIn True.intro e (fun z => nomatch z) h
  | int i => obtain ⟨t, q⟩ := (show ∃ t, u = Value.int i t from rx); cases q; exact PySem.W.kia_one PySem.W.kitx_int I.kIn True.intro e (fun z => nomatch z) h
  | str y => obtain ⟨t, q⟩ := (show ∃ t, u = Value.str y t from rx); cases q; exact PySem.W.kia_one PySem.W.kitx_str I.kIn True.intro e (fun z => nomatch z) h
  | flt y => obtain ⟨t, q⟩ := (show ∃ t, u = Value.float y t from rx); cases q; exact PySem.W.kia_one PySem.W.kitx_float I.kIn True.intro e (fun z => nomatch z) h
  | @lst a xs ea =>
    cases (show u = Value.ref a from rx)
    obtain ⟨_, _, n, _, h1⟩ := (show ObjOk X.prog X.w H s.heap a (.lst xs) from I.hok a _ ea)
    exact PySem.W.kia_one PySem.W.kitx_list I.kIn ⟨_, h1, rfl⟩ e (fun z => nomatch z) h
  | @frz a ob xs ea =>
    cases (show u = Value.ref a from rx)
    obtain ⟨_, _, _, n, _, h1⟩ := (show ObjOk X.prog X.w H s.heap a (.frz ob (.lst xs)) from I.hok a _ ea)
    exact PySem.W.kia_one PySem.W.kitx_list I.kIn ⟨_, h1, rfl⟩ e (fun z => nomatch z) h
  | @tup a xs ea =>
    cases (show u = Value.ref a from rx)
    obtain ⟨_, _, _, p⟩ := (show ObjOk X.prog X.w H s.heap a (.tup xs) from I.hok a _ ea)
    obtain ⟨o, h1, h2, _⟩ := p
    exact PySem.W.kia_one PySem.W.kitx_tuple I.kIn ⟨o, h1, h2⟩ e (fun z => nomatch z) h
  | @dK a kvs ea =>
    cases (show u = Value.ref a from rx)
    obtain ⟨_, _, vs, _, p⟩ := (show ObjOk X.prog X.w H s.heap a (.dK kvs) from I.hok a _ ea)
    obtain ⟨o, es, ep, h1, h2, _⟩ := p
    exact PySem.W.kia_one PySem.W.kitx_dict I.kIn ⟨o, h1, h2.1⟩ e (fun z => nomatch z) h
  | @dT a kvs ea =>
    cases (show u = Value.ref a from rx)
    obtain ⟨_, _, xs, _, o, es, ep, h1, h2, _⟩ := (show ObjOk X.prog X.w H s.heap a (.dT kvs) from I.hok a _ ea)
    exact PySem.W.kia_one PySem.W.kitx_dict I.kIn ⟨o, h1, h2.1⟩ e (fun z => nomatch z) h
  | @ins a C dx fs ea cl ha hn htk hm =>
    cases (show u = Value.ref a from rx)
    obtain ⟨mA, O, _⟩ := ins_get I.hok ea
    obtain ⟨od, J, _⟩ := O.look
    exact PySem.W.kia_one (PySem.W.kitx_own (cl.get _) cl.hd ha hn htk hm) I.kIn J e (fun z => nomatch z) h
end
end L2

namespace L2
open PySem PySem.Spec PyProof.Rows

structure Room (k : Nat) (A : Around) : Prop where
  hd : A.handled = none
  dp : A.depth + 3 * k + 5 < recursionLimit
  un : A.units + 16 * k + 200 < cLine
theorem Room.mono {j k : Nat} {A : Around} (r : Room k A) (h : j ≤ k) : Room j A := ⟨r.hd, by have := r.dp; omega, by have := r.un; omega⟩
theorem Room.deeper {k : Nat} {A : Around} (r : Room (k + 1) A) (env : Env) : Room k (A.deeper env) :=
  ⟨r.hd, by have := r.dp; show A.depth + 1 + 3 * k + 5 < _; omega, by have := r.un; show A.units + 3 + 16 * k + 200 < _; omega⟩
theorem Room.in1 {k : Nat} {A : Around} (r : Room (k + 1) A) : Room k A.in1 :=
  ⟨r.hd, by have := r.dp; show A.depth + 3 * k + 5 < _; omega, by have := r.un; show A.units + 1 + 16 * k + 200 < _; omega⟩
theorem make_depth {A : Around} {C : Addr} {us : List Value} {kw : List (Str × Value)} : (A.under (.builtin "type.__call__" ⟨.ref C :: us, kw⟩)).depth = A.depth + 1 := by
  first | rfl | simp [Around.under, Code.weight, Code.isCreation, Code.isGuard, Code.isCaller, Code.frames, Code.isFrame, guardIds]
theorem make_units {A : Around} {C : Addr} {us : List Value} {kw : List (Str × Value)} : (A.under (.builtin "type.__call__" ⟨.ref C :: us, kw⟩)).units = A.units + 1 := by
  first | rfl | simp [Around.under, Code.cUnits, Code.frames, Code.isFrame]
theorem Room.make {k : Nat} {A : Around} (r : Room (k + 1) A) (C : Addr) (us : List Value) (kw : List (Str × Value)) : Room k (A.under (.builtin "type.__call__" ⟨.ref C :: us, kw⟩)) :=
  ⟨r.hd, by have := r.dp; rw [make_depth]; omega, by have := r.un; rw [make_units]; omega⟩
theorem Room.depth {k : Nat} {A : Around} (r : Room k A) : A.depth < recursionLimit := by have := r.dp; omega
theorem Room.units {k : Nat} {A : Around} (r : Room k A) : A.units + 64 < cLine := by have := r.un; omega
def tNil : TA := fun _ H Q => Q [] H
def tCons (ta : TE) (tr : TA) : TA := fun σ H Q => ta σ H fun x H1 => tr σ H1 fun xs H2 => Q (x :: xs) H2
section
variable {X : Cx} {e : Expr} {es : List Expr} {te : TE} {t : TA} {pos : Pos}
theorem pa_nil : PA X [] tNil := fun _ _ _ _ H Q I h => Calls.spliced_nil ⟨[], H, I, .nil, h⟩
theorem pa_cons (ha : PE X e te) (hr : PA X es t) (hs : starEach (e :: es) X.env = (false, eval e X.env) :: starEach es X.env := by rfl) : PA X (e :: es) (tCons te t) := by
  intro pos pins s σ H Q I h
  rw [hs]
  show wpAny _ _ (spliced ((false, eval e X.env) :: backTo pos (starEach es X.env))) _ _ s
  refine Calls.spliced_cons (thn (ha pins s σ H _ I h) fun u s1 ⟨x, H1, I1, r1, q1⟩ => ?_)
  exact thn (hr pos pins s1 σ H1 _ I1 q1) fun us s2 ⟨xs, H2, I2, r2, q2⟩ => ⟨x :: xs, H2, I2, .cons r1 r2, q2⟩

def tTup (t : TA) : TE := fun σ H Q => t σ H fun xs H1 => xs.length ≤ sizeLine ∧ ∀ p, H1 p = none → Q (.ref p) (upd H1 p (.tup xs))
def tLst (t : TA) : TE := fun σ H Q => t σ H fun xs H1 => xs.length ≤ sizeLine ∧ ∀ p, H1 p = none → Q (.ref p) (upd H1 p (.lst xs))
theorem pe_tup {x1} (h : PA X es t) : PE X (.Tuple es x1 pos) (tTup t) := by
  intro pins s σ H Q I hq
  refine wpAny_Tuple_spliced (thn (h pos pins s σ H _ I hq) fun us s1 ⟨xs, H1, I1, r, z, q⟩ => ⟨by rw [← r.length]; exact z, ?_⟩)
  have hf : H1 s1.heap.objs.size = none := I1.hok.fresh (Nat.le_refl _)
  refine ⟨.ref s1.heap.objs.size, upd H1 s1.heap.objs.size (.tup xs), I1.laid (t' := s1.toks) (fun b u e => Heap.get?_push_of_some _ e) (Nat.le_refl _) ?_, rfl, q _ hf⟩
  exact ⟨z, us, r, ⟨_, Heap.get?_push_size _ rfl, rfl, _, rfl⟩⟩
theorem pe_lst (h : PA X es t) : PE X (.List es pos) (tLst t) := by
  intro pins s σ H Q I hq
  refine wpAny_List_spliced (thn (h pos pins s σ H _ I hq) fun us s1 ⟨xs, H1, I1, r, z, q⟩ => ⟨by rw [← r.length]; exact z, ?_⟩)
  have hf : H1 s1.heap.objs.size = none := I1.hok.fresh (Nat.le_refl _)
  refine ⟨.ref s1.heap.objs.size, upd H1 s1.heap.objs.size (.lst xs), I1.laid (t' := s1.toks) (fun b u e => Heap.get?_push_of_some _ e) (Nat.le_refl _) ?_, rfl, q _ hf⟩
  exact ⟨z, us, 0, r, Heap.get?_push_size _ rfl⟩
end

abbrev Sp := List V → Hp → VK → XK → Prop
abbrev CXT := List Env → Hp → Shared → XK → Value → Shared → Prop

structure Env0 (P : Program) (w : World) (K : PySem.W.Frag) (mg : Str → Option Value) (base : Heap) (A : Around) (outer : List Env) (s : Shared) (H : Hp) : Prop where
  frames : A.frames = some outer
  mod : Mod K mg base
  bs : ∀ b o, base.get? b = some o → s.heap.get? b = some o ∧ H b = none
  bsz : base.objs.size ≤ s.heap.objs.size
  funs : s.heap.FunFrames base outer
  frf : ∀ b ∈ frs outer, H b = none
  hok : HOk P w H s.heap
  bare : AllBare s.gens
def CE (outer : List Env) (P : Program) (w : World) (H : Hp) (s : Shared) (Q : VK) (u : Value) (s' : Shared) : Prop :=
  ∃ v H', s'.os = s.os ∧ AllBare s'.gens ∧ Un (frs outer) [] H H' s.heap s'.heap ∧ HOk P w H' s'.heap ∧ RelV v u ∧ Q v H'
def CR (CX : CXT) (outer : List Env) (P : Program) (w : World) (H : Hp) (s : Shared) (Q : VK) (E : XK) (r : Result) (s' : Shared) : Prop :=
  match r with
  | .ok (.ret u) => CE outer P w H s Q u s'
  | .ok _ => False
  | .error e => CX outer H s E e s'
structure FnOk (P : Program) (w : World) (K : PySem.W.Frag) (mg : Str → Option Value) (base : Heap) (CX : CXT) (k : Nat) (f : Addr) (fd : FuncData) (ps : List Str) (sp : Sp) : Prop where
  len : ∀ vs H Q E, sp vs H Q E → vs.length = ps.length
  run : ∀ (A : Around) (outer : List Env) (s : Shared) (H : Hp) (args : Args) (us : List Value) (vs : List V) (Q : VK) (E : XK), Room k A → Env0 P w K mg base A outer s H → BindsTo s fd args (ps.zip us) → Vals vs us → sp vs H Q E →
    codeAny (model P w) A (.call (.ref f) args) (CR CX outer P w H s Q E) s
theorem FnOk.mono {P : Program} {w : World} {K : PySem.W.Frag} {mg : Str → Option Value} {base : Heap} {CX : CXT} {j k : Nat} {f : Addr} {fd : FuncData} {ps : List Str} {sp : Sp} (F : FnOk P w K mg base CX j f fd ps sp) (h : j ≤ k) :
    FnOk P w K mg base CX k f fd ps sp := ⟨F.len, fun A outer s H args us vs Q E hr => F.run A outer s H args us vs Q E (hr.mono h)⟩
theorem FnOk.imp {P : Program} {w : World} {K : PySem.W.Frag} {mg : Str → Option Value} {base : Heap} {CX : CXT} {k : Nat} {f : Addr} {fd : FuncData} {ps : List Str} {sp sp' : Sp} (F : FnOk P w K mg base CX k f fd ps sp)
    (h : ∀ vs H Q E, sp' vs H Q E → sp vs H Q E) : FnOk P w K mg base CX k f fd ps sp' :=
  ⟨fun vs H Q E q => F.len vs H Q E (h _ _ _ _ q), fun A outer s H args us vs Q E hr he hb hv hs => F.run A outer s H args us vs Q E hr he hb hv (h _ _ _ _ hs)⟩

theorem Env0.make {P : Program} {w : World} {K : PySem.W.Frag} {mg : Str → Option Value} {base : Heap} {A : Around} {outer : List Env} {s : Shared} {H : Hp} (e : Env0 P w K mg base A outer s H) (C : Addr) (us : List Value) (kw : List (Str × Value)) :
    Env0 P w K mg base (A.under (.builtin "type.__call__" ⟨.ref C :: us, kw⟩)) outer s H := ⟨by first | exact e.frames | (simpa [Around.under, Code.envs, Code.isFrame, pushEnvs] using e.frames), e.mod, e.bs, e.bsz, e.funs, e.frf, e.hok, e.bare⟩
theorem Env0.in1 {P : Program} {w : World} {K : PySem.W.Frag} {mg : Str → Option Value} {base : Heap} {A : Around} {outer : List Env} {s : Shared} {H : Hp} (e : Env0 P w K mg base A outer s H) :
    Env0 P w K mg base A.in1 outer s H := ⟨e.frames, e.mod, e.bs, e.bsz, e.funs, e.frf, e.hok, e.bare⟩

section
variable {X : Cx} {pins : List (Addr × Obj)} {σ : St} {H : Hp} {s s' : Shared}
theorem Inv.env0 (I : Inv X pins σ H s) : Env0 X.prog X.w X.K X.mg X.base X.A X.stack s H :=
  ⟨I.ok.frames, I.ok.mod, I.bs, Nat.le_trans I.ok.bsz I.sz, I.stack, I.stkFree, I.hok, I.bare⟩
theorem Inv.after {Q : VK} {u : Value} (I : Inv X pins σ H s) (h : CE X.stack X.prog X.w H s Q u s') : EP X pins σ Q u s' := by
  obtain ⟨v, H', os, bare, un, hok, r, q⟩ := h
  obtain ⟨hh, g, d, t, os'⟩ := s'
  obtain rfl : os' = s.os := os
  exact ⟨v, H', I.call (h' := hh) (g' := g) (d' := d) (t' := t) (ch := []) un hok bare (fun b z => absurd z (by simp)), r, q⟩
end

def Binds (K : PySem.W.Frag) (fd : FuncData) (ps : List Str) (ds : List Value) : Prop :=
  ∀ (s : Shared) (us : List Value), K.In s.heap → (us ++ ds).length = ps.length → BindsTo s fd ⟨us, []⟩ (ps.zip (us ++ ds))
theorem Binds.all {K : PySem.W.Frag} {fd : FuncData} {ps : List Str} (h : ∀ us : List Value, us.length = ps.length → bindArgs fd ⟨us, []⟩ = pure (ps.zip us)) : Binds K fd ps [] := fun s us _ hl => by
  rw [List.append_nil] at hl ⊢
  exact .of_eq (h us hl)

section
variable {X : Cx} {CX : CXT} {k : Nat} {f C : Addr} {fd : FuncData} {ps : List Str} {sp : Sp} {dvs : List V} {ds : List Value} {E : XK} {x m : Str} {p pos apos : Pos} {e o : Expr} {es : List Expr} {ta : TE} {t : TA}

structure Mk (K : PySem.W.Frag) (C f : Addr) : Prop where
  makes : PySem.W.makesIn K C = true
  init : PySem.W.findIn K (.ref C) "__init__" = some (some (.ref f))
  fn : PySem.W.isFn K (.ref f) = true
  kp : PySem.W.keepIn K (.ref C) = true

end

def PK (X : Cx) (kws : List Keyword) (t : TA) : Prop :=
  ∀ (pos : Pos) (pins : List (Addr × Obj)) (s : Shared) (σ : St) (H : Hp) (Q : List V → Hp → Prop), Inv X pins σ H s → t σ H Q → wpAny (model X.prog X.w) X.A (evalAll ((backToKw pos (keywordEach kws X.env)).map (·.2))) (AP X pins σ Q) X.xe s
section
variable {X : Cx} {CX : CXT} {k : Nat} {f C : Addr} {fd : FuncData} {ps ks : List Str} {sp : Sp} {E : XK} {x m : Str} {p pos apos kpos : Pos} {e o : Expr} {es : List Expr} {kws : List Keyword} {te ta : TE} {t tk : TA} {nm : Option Str}
structure KBinds (K : PySem.W.Frag) (fd : FuncData) (ps ks : List Str) (g : List Value → List Value → List Value) (gV : List V → List V → List V) : Prop where
  to : ∀ (s : Shared) (us ws : List Value), K.In s.heap → (g us ws).length = ps.length → BindsTo s fd ⟨us, ks.zip ws⟩ (ps.zip (g us ws))
  rel : ∀ {vs : List V} {us : List Value} {zs : List V} {ws : List Value}, Vals vs us → Vals zs ws → Vals (gV vs zs) (g us ws)
variable {g : List Value → List Value → List Value} {gV : List V → List V → List V}
end

structure FnScope (N P : List Str) (sc : Scope) : Prop where
  kind : sc.kind = .function
  co : sc.isCoroutine = false
  gen : sc.isGenerator = false
  nd : N.Nodup
  pre : N.take P.length = P
  par : ∀ x ∈ P, sc.names.lookup x = some .local ∨ sc.names.lookup x = some .cell
  nofree : ∀ y ∈ sc.names, y.2 ≠ .free

theorem bindL_out {kindOf : Str → Option NameKind} {x : Str} : ∀ {binds : List (Str × Value)} {m : Str → Option Value}, (∀ v, (x, v) ∉ binds) → bindL kindOf binds m x = m x
  | [], _, _ => rfl
  | (n, v) :: r, m, h => by
    unfold bindL
    rw [bindL_out fun w hw => h w (List.mem_cons_of_mem _ hw)]
    split
    · have : x ≠ n := by rintro rfl; exact h v List.mem_cons_self
      simp [this]
    · rfl
theorem bindC_out {kindOf : Str → Option NameKind} {x : Str} : ∀ {binds : List (Str × Value)} {m : Str → Option Value}, (∀ v, (x, v) ∉ binds) → bindC kindOf binds m x = m x
  | [], _, _ => rfl
  | (n, v) :: r, m, h => by
    unfold bindC
    rw [bindC_out fun w hw => h w (List.mem_cons_of_mem _ hw)]
    split
    · rfl
    · have : x ≠ n := by rintro rfl; exact h v List.mem_cons_self
      simp [this]
theorem bindL_get {kindOf : Str → Option NameKind} {x : Str} {v : Value} : ∀ {P : List Str} {vs : List Value} {i : Nat} {m : Str → Option Value}, P.Nodup → P[i]? = some x → vs[i]? = some v → kindOf x = some .local →
    bindL kindOf (P.zip vs) m x = some v
  | [], _, _, _, _, h, _, _ => by simp at h
  | _ :: _, [], _, _, _, _, h, _ => by simp at h
  | p :: P, w :: vs, 0, m, nd, h1, h2, hk => by
    simp at h1 h2; subst h1; subst h2
    show bindL kindOf ((p, w) :: P.zip vs) m p = _
    unfold bindL
    rw [bindL_out fun v hv => (List.nodup_cons.mp nd).1 (List.of_mem_zip hv).1, if_pos hk]
    simp
  | p :: P, w :: vs, i + 1, m, nd, h1, h2, hk => by
    show bindL kindOf ((p, w) :: P.zip vs) m x = _
    unfold bindL
    exact bindL_get (i := i) (List.nodup_cons.mp nd).2 (by simpa using h1) (by simpa using h2) hk
theorem bindC_get {kindOf : Str → Option NameKind} {x : Str} {v : Value} : ∀ {P : List Str} {vs : List Value} {i : Nat} {m : Str → Option Value}, P.Nodup → P[i]? = some x → vs[i]? = some v → kindOf x ≠ some .local →
    bindC kindOf (P.zip vs) m x = some v
  | [], _, _, _, _, h, _, _ => by simp at h
  | _ :: _, [], _, _, _, _, h, _ => by simp at h
  | p :: P, w :: vs, 0, m, nd, h1, h2, hk => by
    simp at h1 h2; subst h1; subst h2
    show bindC kindOf ((p, w) :: P.zip vs) m p = _
    unfold bindC
    rw [bindC_out fun v hv => (List.nodup_cons.mp nd).1 (List.of_mem_zip hv).1, if_neg hk]
    simp
  | p :: P, w :: vs, i + 1, m, nd, h1, h2, hk => by
    show bindC kindOf ((p, w) :: P.zip vs) m x = _
    unfold bindC
    exact bindC_get (i := i) (List.nodup_cons.mp nd).2 (by simpa using h1) (by simpa using h2) hk

def start (N : List Str) (vs : List V) : St := vs.map some ++ List.replicate (N.length - vs.length) none

def cxOf (CX : CXT) (P : Program) (w : World) (K : PySem.W.Frag) (mg : Str → Option Value) (base : Heap) (N : List Str) (qual : Str) (scope : Scope) (f : Addr) (cd : Value) (A : Around) (outer : List Env) (s : Shared) (H : Hp) (E : XK) : Cx where
  prog := P
  w := w
  K := K
  mg := mg
  base := base
  A := A.deeper (envOfC qual scope s.heap.objs.size f cd)
  N := N
  s₀ := s
  H₀ := H
  env := envOfC qual scope s.heap.objs.size f cd
  outer := outer
  stack := envOfC qual scope s.heap.objs.size f cd :: outer
  ex := []
  calm := true
  fn := fun _ => true
  pn := []
  xe := fun e s' => wpAny (model P w) (A.deeper (envOfC qual scope s.heap.objs.size f cd)) (leaving (envOfC qual scope s.heap.objs.size f cd) e) (fun _ s'' => CX outer H s E e s'') (fun e' s'' => CX outer H s E e' s'') s'

theorem cell_has {sc : Scope} {n : Nat} {x : Str} (h : sc.names.lookup x = some .cell) : ∃ c, (cellsFrom n sc.names []).lookup x = some c := by
  have q := PySem.W.cellsFrom_some sc.names n [] (.inl h)
  exact Option.isSome_iff_exists.mp q

theorem inv_start {CX : CXT} {P : Program} {w : World} {K : PySem.W.Frag} {mg : Str → Option Value} {base : Heap} {N ps : List Str} {qual : Str} {scope : Scope} {f : Addr} {cd : Value} {A : Around} {outer : List Env} {s s1 : Shared} {H : Hp} {E : XK} {us : List Value} {vs : List V}
    (S : FnScope N ps scope) (hd : A.handled = none) (e0 : Env0 P w K mg base A outer s H) (hl : vs.length = ps.length) (r : Vals vs us)
    (x : InCallC s s.heap.objs.size (bindL (envOfC qual scope s.heap.objs.size f cd).kindOf (ps.zip us) fun _ => none) (cellsFrom (s.heap.objs.size + 1) scope.names []) (bindC (envOfC qual scope s.heap.objs.size f cd).kindOf (ps.zip us) fun _ => none) s1) :
    Inv (cxOf CX P w K mg base N qual scope f cd A outer s H E) [] (start N vs) H s1 := by
  have hpl : ps.length ≤ N.length := by have := congrArg List.length S.pre; rw [List.length_take] at this; omega
  obtain ⟨h1, tk, rfl, hk⟩ := x.done
  have noA : ∀ b : Addr, b ∉ (cxOf CX P w K mg base N qual scope f cd A outer s H E).ex := fun b z => absurd (show b ∈ ([] : List Addr) from z) (by simp)
  refine ⟨⟨e0.mod, S.kind, rfl, rfl, Nat.le_refl _, fun y z c h1 h2 => ?_, fun y hy => ?_, fun y c _ h => ?_, fun _ => hd, Around.frames_deeper e0.frames, .inr ⟨rfl, rfl⟩, fun b z => absurd z (noA b), e0.bs, e0.bsz, fun b _ _ => noA b, fun b z => absurd z (noA b), e0.funs, e0.frf⟩,
    rfl, e0.bare, Un.kept hk, ⟨_, x.toInCall.ns, fun i y v h1 h2 h3 => ?_⟩, fun y c h => ⟨_, x.cell y c h⟩, e0.hok.fresh (Nat.le_refl _), fun y c h => ?_, fun p hp => absurd (show p ∈ ([] : List (Addr × Obj)) from hp) (by simp), e0.hok.kept hk, ?_⟩
  · exact name_of_addr x.apart (PySem.mem_of_lookup h1) (PySem.mem_of_lookup h2)
  · have hy : scope.names.lookup y = some .cell ∨ scope.names.lookup y = some .free := hy
    rcases hy with hy | hy
    · exact cell_has hy
    · exact absurd rfl (S.nofree _ (PySem.mem_of_lookup hy))
  · exact Nat.le_of_lt (x.above y c (PySem.mem_of_lookup h))
  · have hi : i < vs.length := by
      unfold start at h2
      by_cases hi : i < vs.length
      · exact hi
      · rw [List.getElem?_append_right (by simpa using hi)] at h2
        rw [List.getElem?_replicate] at h2
        split at h2 <;> cases h2
    have ha : vs[i]? = some v := by
      unfold start at h2
      rw [List.getElem?_append_left (by simpa using hi), List.getElem?_map] at h2
      cases e : vs[i]? with
      | none => rw [e] at h2; cases h2
      | some a => rw [e] at h2; cases h2; rfl
    obtain ⟨u, hu, rv⟩ := r.get ha
    have hp : ps[i]? = some y := by
      rw [← S.pre, List.getElem?_take_of_lt (by omega)]; exact h1
    have ndP : ps.Nodup := by rw [← S.pre]; exact S.nd.sublist (List.take_sublist _ _)
    refine ⟨u, rv, ?_⟩
    rcases S.par y (List.mem_of_getElem? hp) with k | k
    · exact .inl ⟨k, bindL_get ndP hp hu k⟩
    · obtain ⟨c, e⟩ := cell_has (n := s.heap.objs.size + 1) k
      refine .inr ⟨.inl k, c, e, ?_⟩
      have q := x.cell y c e
      rw [bindC_get ndP hp hu (by show scope.names.lookup y ≠ _; rw [k]; decide)] at q
      exact q
  · exact e0.hok.fresh (Nat.le_of_lt (x.above y c (PySem.mem_of_lookup h)))
  · unfold start
    show _ = N.length
    rw [List.length_append, List.length_map, List.length_replicate]
    omega

theorem fn_of {CX : CXT} {P : Program} {w : World} {K : PySem.W.Frag} {mg : Str → Option Value} {base : Heap} {k : Nat} {f : Addr} {name qual : Str} {params : Arguments} {body : List Stmt} {scope : Scope} {dV kV doc pm cdv ct oc : Value} {an od : Option Addr}
    {osl : Array (Option Value)} {N ps : List Str} {sp : Sp} (lk : K.lookup f = some ⟨oc, od, .func (PySem.W.fnOf name qual params body scope dV kV doc pm an cdv ct), osl⟩) (hcd : PySem.W.codeIn K cdv qual = true) (S : FnScope N ps scope)
    (len : ∀ vs H Q E, sp vs H Q E → vs.length = ps.length)
    (hbody : ∀ (A : Around) (outer : List Env) (s : Shared) (H : Hp) (vs : List V) (Q : VK) (E : XK), Room k (A.deeper (envOfC qual scope s.heap.objs.size f cdv)) → sp vs H Q E →
      ∃ t, PSs (cxOf CX P w K mg base N qual scope f cdv A outer s H E) body t ∧ t { nx := fun _ H' => Q .non H', rt := Q } (start N vs) H) :
    FnOk P w K mg base CX (k + 1) f (PySem.W.fnOf name qual params body scope dV kV doc pm an cdv ct) ps sp := by
  refine ⟨len, fun A outer s H args us vs Q E hr e0 hb r hsp => ?_⟩
  have hl := len _ _ _ _ hsp
  have KX : K.In s.heap := e0.mod.kin.keeps fun b o e => (e0.bs b o e).1
  have lim : s.heap.NoLimit := e0.mod.nolimit.keeps fun b o e => (e0.bs b o e).1
  have hkind : ∀ y ∈ ps.zip us, scope.names.lookup y.1 = some .local ∨ (scope.names.lookup y.1 = some .cell ∧ ((cellsFrom (s.heap.objs.size + 1) scope.names []).lookup y.1).isSome = true) := fun ⟨n, v⟩ hy => by
    rcases S.par n (List.of_mem_zip hy).1 with q | q
    · exact .inl q
    · exact .inr ⟨q, PySem.W.cellsFrom_some _ _ _ (.inl q)⟩
  refine codeAny_call_function hr.depth (KX _ _ lk) rfl S.co S.gen rfl (PySem.W.codeRec_of KX hcd) (hb _ _ _ _ ?_)
  refine wpAny_newFunctionEnv_cells S.kind hkind fun env he s1 x => ?_
  subst he
  refine ⟨lim.keeps x.toInCall.keep, codeAny_func ?_⟩
  obtain ⟨t, ht, hq⟩ := hbody A outer s H vs Q E (hr.deeper _) hsp
  have I : Inv (cxOf CX P w K mg base N qual scope f cdv A outer s H E) [] (start N vs) H s1 := inv_start S hr.hd e0 hl r x
  refine wpAny_mono (ht [] s1 (start N vs) H _ I hq) (fun fl s' hs => ?_) fun e s' hs => hs
  have fin : ∀ {σ' : St} {H' : Hp} {v : V} {u : Value}, Inv (cxOf CX P w K mg base N qual scope f cdv A outer s H E) [] σ' H' s' → RelV v u → Q v H' → CE outer P w H s Q u s' :=
    fun {σ' H' v u} J rv q => ⟨v, H', J.os, J.bare, J.base, J.hok, rv, q⟩
  cases fl with
  | ret u =>
    obtain ⟨v, σ', H', J, rv, q⟩ := hs
    exact fin J rv q
  | next =>
    obtain ⟨σ', H', J, q⟩ := hs
    exact fin (v := V.non) (u := Value.none) J rfl q
  | brk =>
    obtain ⟨_, _, _, q⟩ := hs
    exact False.elim q
  | cont =>
    obtain ⟨_, _, _, q⟩ := hs
    exact False.elim q
end L2

namespace L2
open PySem PySem.Spec PyProof.Rows
section
variable {X : Cx} {x : Str} {p pos : Pos} {e : Expr} {es : List Expr} {t : TA} {id T : String} {r : List V → Hp → VK → Prop}

def tCB (r : List V → Hp → VK → Prop) (t : TA) : TE := fun σ H Q => t σ H fun vs H1 => r vs H1 Q
theorem pe_callB (hc : CallR X (.builtin id) r) (hg : Gl X x) (hm : X.mg x = none) (hv : bootBuiltins x = some (.builtin id)) (ha : PA X (e :: es) t) (hn : x ≠ "__name__" := by decide) (hdb : (x == ("__debug__" : Str)) = false := by decide)
    (he : starEach (e :: es) X.env = (false, eval e X.env) :: starEach es X.env := by rfl) (hpl : (backTo pos (starEach es X.env)).any (·.1) = false := by rfl) : PE X (.Call (.Name x p) (e :: es) [] pos) (tCB r t) := by
  intro pins s σ H Q I h
  refine wpAny_Call_Name_kw (ld_blt I hg hm hv ?_ hn hdb)
  exact PyProof.Rows.callWith_builtin1 (thn (ha pos pins s σ H _ I h) fun us s1 ⟨vs, H1, I1, r1, q1⟩ => hc pins s1 σ H1 vs us Q I1 r1 q1) he hpl
theorem pe_callTy (hc : CallR X (.type T) r) (hg : Gl X x) (hm : X.mg x = none) (hv : bootBuiltins x = some (.type T)) (ha : PA X (e :: es) t) (hn : x ≠ "__name__" := by decide) (hdb : (x == ("__debug__" : Str)) = false := by decide)
    (he : starEach (e :: es) X.env = (false, eval e X.env) :: starEach es X.env := by rfl) (hpl : (backTo pos (starEach es X.env)).any (·.1) = false := by rfl) : PE X (.Call (.Name x p) (e :: es) [] pos) (tCB r t) := by
  intro pins s σ H Q I h
  refine wpAny_Call_Name_kw (ld_blt I hg hm hv ?_ hn hdb)
  exact PyProof.Rows.callWith_type1 (thn (ha pos pins s σ H _ I h) fun us s1 ⟨vs, H1, I1, r1, q1⟩ => hc pins s1 σ H1 vs us Q I1 r1 q1) he hpl
end
end L2

namespace HT
open PySem PyProof.Rows

section
open PySem.SeqAt
open PySem.AutoSeq1 (wpAny_loadPart')
open PySem.MeetsSeq PySem.MeetsSeq2 PySem.MeetsSeq3

end

section
variable {prog : Program} {w : World} {A : Around} {E : Value → Shared → Prop} {s : Shared}

theorem cat_tup {t b : Addr} {vs ws : List Value} {Q : Value → Shared → Prop} (ht : IsTup s.heap t vs.toArray) (hb : IsTup s.heap b ws.toArray) (hv : vs ≠ [])
    (h1 : ws = [] → Q (.ref t) s) (h2 : ws ≠ [] → Q (.ref s.heap.objs.size) { s with heap := s.heap.push { cls := .type "tuple", data := .seq (vs ++ ws).toArray } })
    (hsz : vs.length + ws.length ≤ sizeLine) : wpAny (model prog w) A (binaryOp .Add (.ref t) (.ref b)) Q E s := by
  obtain ⟨⟨cls, dd, data, sl⟩, ho, hc, n, hd⟩ := id ht
  obtain ⟨⟨cls2, dd2, data2, sl2⟩, ho2, hc2, n2, hd2⟩ := id hb
  simp only at hc hd hc2 hd2
  subst hc hd hc2 hd2
  have e : vs.toArray ++ ws.toArray = (vs ++ ws).toArray := by simp
  by_cases hw : ws = []
  · exact concat_meets ⟨_, ho, rfl⟩ ⟨_, ho2, rfl⟩ noFill_tuple_add seq_tuple_add PySem.F.slot_tuple_add PySem.F.entry_tuple_add (PySem.F.args_tuple_add_2 _ _)
      (tuple_addW1 t b vs.toArray ws.toArray n n2 dd dd2 sl sl2 (by simpa using hv) (by simp [hw])) ⟨ho, ho2, h1 hw⟩
  · refine concat_meets ⟨_, ho, rfl⟩ ⟨_, ho2, rfl⟩ noFill_tuple_add seq_tuple_add PySem.F.slot_tuple_add PySem.F.entry_tuple_add (PySem.F.args_tuple_add_2 _ _)
      (tuple_addW2 t b vs.toArray ws.toArray n n2 dd dd2 sl sl2 (by simpa using hv) (by simpa using hw) (by rw [List.size_toArray, List.size_toArray]; exact hsz)) ⟨ho, ho2, ?_⟩
    rw [e]
    exact h2 hw

def sIx (n d : Nat) : Option Int → Nat
  | none => d
  | some v => if v < 0 then (v + (n : Int)).toNat else min v.toNat n
theorem sIx_le (n d : Nat) (hd : d ≤ n) (o : Option Int) : sIx n d o ≤ n := by
  cases o with
  | none => exact hd
  | some v =>
    show (if v < 0 then (v + (n : Int)).toNat else min v.toNat n) ≤ n
    by_cases hv : v < 0
    · rw [if_pos hv]; omega
    · rw [if_neg hv]; exact Nat.min_le_right _ _
theorem clip_eq (v : Int) (n d : Nat) : (if v < 0 then max (v + (n : Int)) 0 else min v (n : Int)) = ((sIx n d (some v) : Nat) : Int) := by
  show (if v < 0 then max (v + (n : Int)) 0 else min v (n : Int)) = (((if v < 0 then (v + (n : Int)).toNat else min v.toNat n) : Nat) : Int)
  by_cases hv : v < 0
  · simp only [if_pos hv]; omega
  · simp only [if_neg hv]; omega
theorem adjust_gen (lo hi : Option Int) (n : Nat) : Builtin.Slice.sliceAdjust lo hi 1 (n : Int) = (((sIx n 0 lo : Nat) : Int), ((sIx n n hi : Nat) : Int)) := by
  have h1 : ¬ ((1 : Int) < 0) := by omega
  unfold Builtin.Slice.sliceAdjust
  simp only [h1, if_false]
  refine Prod.ext ?_ ?_
  · cases lo with
    | none => rfl
    | some v => exact clip_eq v n 0
  · cases hi with
    | none => rfl
    | some v => exact clip_eq v n n
theorem places_gen (i j : Nat) : Builtin.Slice.slicePlaces (i : Int) (j : Int) 1 = j - i := by
  unfold Builtin.Slice.slicePlaces
  have h1 : (1 : Int) > 0 := by omega
  simp only [h1, if_true, Int.ediv_one]
  split <;> omega
theorem slicePart_ {v : Value} {o : Option Int} {Q : Option Int → Shared → Prop} (p : IsPart v o) (h : Q o s) : wpAny (model prog w) A (Builtin.Slice.slicePartIndex v) Q E s := by
  cases p with
  | none => exact slicePart_none h
  | int i t => exact slicePart_int h
theorem sliceApplied_gen {sl : Addr} {vl vu : Value} {lo hi : Option Int} {n : Nat} {Q : Int × Int × Nat → Shared → Prop} (hs : s.heap.IsSliceOf sl vl vu .none) (pl : IsPart vl lo) (pu : IsPart vu hi)
    (h : Q (((sIx n 0 lo : Nat) : Int), 1, sIx n n hi - sIx n 0 lo) s) : wpAny (model prog w) A (Builtin.Slice.sliceApplied (.ref sl) (pure (n : Int))) Q E s := by
  obtain ⟨os, hos, hcs, hds⟩ := id hs
  unfold Builtin.Slice.sliceApplied Builtin.Slice.sliceFields
  refine wpAny_bind (wpAny_bind (wpAny_field hos hds (x := vl) rfl (wpAny_bind (wpAny_field hos hds (x := vu) rfl (wpAny_bind (wpAny_field hos hds (x := .none) rfl (wpAny_pure ?_)))))))
  refine wpAny_bind (slicePart_none ?_)
  show wpAny _ _ (if ((1 : Int) == 0) = true then _ else _) _ _ s
  rw [if_neg (by decide)]
  refine wpAny_bind (slicePart_ pl (wpAny_bind (slicePart_ pu (wpAny_bind (wpAny_pure ?_)))))
  show wpAny _ _ (match Builtin.Slice.sliceAdjust lo hi 1 (n : Int) with | (lo, hi) => pure (lo, (1 : Int), Builtin.Slice.slicePlaces lo hi 1)) _ _ s
  rw [adjust_gen lo hi n]
  show wpAny _ _ (pure (((sIx n 0 lo : Nat) : Int), (1 : Int), Builtin.Slice.slicePlaces ((sIx n 0 lo : Nat) : Int) ((sIx n n hi : Nat) : Int) 1)) _ _ s
  rw [places_gen]
  exact wpAny_pure h
theorem pick_gen (xs : Array Value) (i k : Nat) : ((List.range k).filterMap fun (m : Nat) => xs[((i : Int) + (m : Int) * 1).toNat]?).toArray = ((xs.toList.drop i).take k).toArray := by
  have e : (fun (m : Nat) => xs[((i : Int) + (m : Int) * 1).toNat]?) = fun m => xs[i + m]? := by
    funext m
    have : ((i : Int) + (m : Int) * 1).toNat = i + m := by omega
    rw [this]
  rw [e]
  have := pick_run xs i k
  rw [List.filterMap_map] at this
  have e2 : ((fun x => xs[x]?) ∘ fun x => i + x) = fun m => xs[i + m]? := rfl
  rw [e2] at this
  rw [this]

theorem getItem_tuple_cut {t sl : Addr} {items : Array Value} {vl vu : Value} {lo hi : Option Int} {Q : Value → Shared → Prop} (ht : IsTup s.heap t items) (hs : s.heap.IsSliceOf sl vl vu .none) (pl : IsPart vl lo) (pu : IsPart vu hi)
    (hw : ¬ (sIx items.size 0 lo = 0 ∧ sIx items.size items.size hi = items.size))
    (h : Q (.ref s.heap.objs.size) { s with heap := s.heap.push { cls := .type "tuple", data := .seq ((items.toList.drop (sIx items.size 0 lo)).take (sIx items.size items.size hi - sIx items.size 0 lo)).toArray } })
    (hsz : items.size ≤ sizeLine) : wpAny (model prog w) A (getItem (.ref t) (.ref sl)) Q E s := by
  have htake : sizeOk (.seq ((items.toList.drop (sIx items.size 0 lo)).take (sIx items.size items.size hi - sIx items.size 0 lo)).toArray) := by
    show ((items.toList.drop (sIx items.size 0 lo)).take (sIx items.size items.size hi - sIx items.size 0 lo)).toArray.size ≤ sizeLine
    rw [List.size_toArray, List.length_take, List.length_drop, Array.length_toList]
    omega
  have hj : sIx items.size items.size hi ≤ items.size := sIx_le _ _ (Nat.le_refl _) hi
  obtain ⟨os, hos, hcs, hds⟩ := id hs
  have hTs : s.TypeIs (.ref sl) "slice" := ⟨os, hos, hcs⟩
  unfold getItem
  try with_reducible refine wpAny_holding ?_
  first | refine wpAny_bind (wpAny_pure ?_) | skip
  refine wpAny_bind (wpAny_sequenceKey ht.typeIs (by decide) ?_)
  refine wpAny_bind (wpAny_callSpecial?_slot (name := Str.ofString "__getitem__") ht.typeIs PyProof.Rows.slot_tuple_getitem
    (wpAny_call_entry PyProof.Rows.slot_tuple_getitem ht.typeIs entry_tuple_getitem ?_ (args_tuple_getitem _ _)))
  show wpAny _ _ (Builtin.Tuple.tupleItemsOf (.ref t) >>= _) _ _ s
  refine wpAny_bind (tupleItemsOf_ ht ?_)
  refine wpAny_bind (wpAny_typeOf hTs ?_)
  rw [if_pos (by decide)]
  refine wpAny_bind (sliceApplied_gen hs pl pu ?_)
  have hno : ¬ ((((sIx items.size 0 lo : Nat) : Int) == 0 && (1 : Int) == 1 && (sIx items.size items.size hi - sIx items.size 0 lo) == items.size) = true) := by
    intro q
    rw [Bool.and_eq_true, Bool.and_eq_true] at q
    have q1 : ((sIx items.size 0 lo : Nat) : Int) = 0 := eq_of_beq q.1.1
    have q2 : sIx items.size items.size hi - sIx items.size 0 lo = items.size := eq_of_beq q.2
    exact hw ⟨by omega, by omega⟩
  show wpAny _ _ (if (((sIx items.size 0 lo : Nat) : Int) == 0 && (1 : Int) == 1 && (sIx items.size items.size hi - sIx items.size 0 lo) == items.size) = true then _ else _) _ _ s
  rw [if_neg hno, pick_gen]
  first
    | exact wpAny_bind (m := Builtin.Tuple.tupleExact _) (wpAny_newObj_type (wpAny_pure ⟨_, rfl, wpAny_pure h⟩) htake)
    | exact wpAny_bind (m := Builtin.Tuple.tupleExact _) (wpAny_newObj_type (wpAny_bind (wpAny_pure (wpAny_pure ⟨_, rfl, wpAny_pure h⟩))) htake)
    | exact wpAny_bind (wpAny_bind (m := Builtin.Tuple.tupleExact _) (wpAny_newObj_type (wpAny_pure (wpAny_pure ⟨_, rfl, wpAny_pure h⟩)) htake))
    | exact wpAny_bind (wpAny_bind (m := Builtin.Tuple.tupleExact _) (wpAny_newObj_type (wpAny_pure ⟨_, rfl, wpAny_pure h⟩) htake))
end
end HT

namespace L2
open PySem PySem.Spec PyProof.Rows

abbrev TO := St → Hp → (Option Int → Hp → Prop) → Prop
def PO (X : Cx) (e : Option Expr) (t : TO) : Prop :=
  ∀ (pins : List (Addr × Obj)) (s : Shared) (σ : St) (H : Hp) (Q : Option Int → Hp → Prop), Inv X pins σ H s → t σ H Q →
    wpAny (model X.prog X.w) X.A (evalPart e X.env) (fun u s' => ∃ o H', Inv X pins σ H' s' ∧ IsPart u o ∧ Q o H') X.xe s
def tPart (t : TE) : TO := fun σ H Q => t σ H fun x H1 => ∃ i, x = .int i ∧ Q (some i) H1

section
variable {X : Cx} {e : Expr} {te : TE} {lo hi : Option Expr} {tl th : TO} {pos p2 : Pos}

theorem po_some (h : PE X e te) : PO X (some e) (tPart te) := by
  intro pins s σ H Q I hw
  rw [evalPart_some]
  refine thn (h pins s σ H _ I hw) fun u s1 ⟨x, H1, I1, r1, q1⟩ => ?_
  obtain ⟨i, rfl, q⟩ := q1
  obtain ⟨t, rfl⟩ := r1
  exact ⟨some i, H1, I1, .int i t, q⟩

def SlR (X : Cx) (r : V → Option Int → Option Int → Hp → VK → Prop) : Prop :=
  ∀ (pins : List (Addr × Obj)) (s : Shared) (σ : St) (H : Hp) (x : V) (v vl vu : Value) (lo hi : Option Int) (sl : Addr) (Q : VK), Inv X pins σ H s → RelV x v → s.heap.IsSliceOf sl vl vu .none → IsPart vl lo → IsPart vu hi → r x lo hi H Q →
    ∃ T id, typeLookup (.type T) "__getitem__" = pure (some (.builtin id)) ∧ s.TypeIs v T ∧ wpAny (model X.prog X.w) X.A (getItem v (.ref sl)) (EP X pins σ Q) X.xe s
theorem SlR.or {r r' : V → Option Int → Option Int → Hp → VK → Prop} (h : SlR X r) (h' : SlR X r') : SlR X (fun x lo hi H Q => r x lo hi H Q ∨ r' x lo hi H Q) := by
  intro pins s σ H x v vl vu lo hi sl Q I rx hs pl pu q
  rcases q with q | q
  · exact h pins s σ H x v vl vu lo hi sl Q I rx hs pl pu q
  · exact h' pins s σ H x v vl vu lo hi sl Q I rx hs pl pu q
def tSl (r : V → Option Int → Option Int → Hp → VK → Prop) (te : TE) (tl th : TO) : TE := fun σ H Q => te σ H fun x H1 => tl σ H1 fun l H2 => th σ H2 fun u H3 => r x l u H3 Q
theorem pe_slice {r : V → Option Int → Option Int → Hp → VK → Prop} (hr : SlR X r) (he : PE X e te) (hl : PO X lo tl) (hu : PO X hi th) : PE X (.Subscript e (.Slice lo hi none p2) pos) (tSl r te tl th) := by
  intro pins s σ H Q I h
  refine Subscript_ (thn (he pins s σ H _ I h) fun v s1 ⟨x, H1, I1, r1, q1⟩ => ?_)
  refine wpAny_Slice (thn (hl pins s1 σ H1 _ I1 q1) fun vl s2 ⟨l, H2, I2, pl, q2⟩ => thn (hu pins s2 σ H2 _ I2 q2) fun vu s3 ⟨u, H3, I3, pu, q3⟩ => ?_)
  rw [evalPart_none]
  refine wpAny_pure ?_
  have I4 : Inv X pins σ H3 { s3 with heap := s3.heap.push { cls := .type "slice", data := .fields #[vl, vu, .none] } } := I3.kept (t' := s3.toks) fun b ob q => Heap.get?_push_of_some _ q
  obtain ⟨T, id, hT, ht, hg⟩ := hr pins { s3 with heap := s3.heap.push { cls := .type "slice", data := .fields #[vl, vu, .none] } } σ H3 x v vl vu l u s3.heap.objs.size Q I4 r1 (Heap.IsSliceOf.new ..) pl pu q3
  show wpAny (model X.prog X.w) X.A (subscriptTail e (.Slice lo hi none p2) v (.ref s3.heap.objs.size)) (EP X pins σ Q) X.xe { s3 with heap := s3.heap.push { cls := .type "slice", data := .fields #[vl, vu, .none] } }
  exact tail_any (ops := [.ref s3.heap.objs.size, v]) ht hT hg (by with_unfolding_all rfl)

def cutV (xs : List V) (lo hi : Option Int) : List V := (xs.drop (HT.sIx xs.length 0 lo)).take (HT.sIx xs.length xs.length hi - HT.sIx xs.length 0 lo)
theorem cutV_length (xs : List V) (lo hi : Option Int) : (cutV xs lo hi).length ≤ xs.length := by
  unfold cutV
  rw [List.length_take, List.length_drop]
  omega
def rSlT (K : PySem.W.Frag) : V → Option Int → Option Int → Hp → VK → Prop := fun x lo hi H Q => ∃ a xs, x = .ref a ∧ SqT K H a xs ∧
  ¬ (HT.sIx xs.length 0 lo = 0 ∧ HT.sIx xs.length xs.length hi = xs.length) ∧ ∀ p, H p = none → Q (.ref p) (upd H p (.tup (cutV xs lo hi)))
theorem sl_tup : SlR X (rSlT X.K) := by
  intro pins s σ H x v vl vu lo hi sl Q I rx hs pl pu h
  obtain ⟨a, xs, rfl, hx, hw, q⟩ := h
  cases rx
  obtain ⟨its, r, ht, hz⟩ := I.tuple hx
  have hlen : its.toArray.size = xs.length := by rw [List.size_toArray]; exact r.length.symm
  refine ⟨"tuple", _, PyProof.Rows.slot_tuple_getitem.lookup, ht.typeIs, ?_⟩
  refine HT.getItem_tuple_cut ht hs pl pu (by rw [hlen]; exact hw) ?_ (by rw [hlen]; exact hz)
  rw [hlen]
  refine ⟨.ref s.heap.objs.size, _, I.laid (t' := s.toks) (o := .tup (cutV xs lo hi)) (fun b ob q => Heap.get?_push_of_some _ q) (Nat.le_refl _) ?_, rfl, q _ (I.hok.fresh (Nat.le_refl _))⟩
  exact ⟨Nat.le_trans (cutV_length xs lo hi) hz, _, (r.drop (HT.sIx xs.length 0 lo)).take (HT.sIx xs.length xs.length hi - HT.sIx xs.length 0 lo), IsTup.new _ _⟩

def rCatT (K : PySem.W.Frag) : R2 := fun x y H Q => ∃ a b xs ys, x = .ref a ∧ y = .ref b ∧ SqT K H a xs ∧ SqT K H b ys ∧ xs ≠ [] ∧ xs.length + ys.length ≤ sizeLine ∧
  (ys = [] → Q (.ref a) H) ∧ (ys ≠ [] → ∀ p, H p = none → Q (.ref p) (upd H p (.tup (xs ++ ys))))
theorem Vals.nil_iff {xs : List V} {us : List Value} (r : Vals xs us) : us = [] ↔ xs = [] := by
  cases r with
  | nil => simp
  | cons _ _ => simp
theorem op_catT : OpR X (binaryOp .Add) (rCatT X.K) := by
  intro pins s σ H x y v u Q I rx ry h
  obtain ⟨a, b, xs, ys, rfl, rfl, ha, hb, hx, hz, q1, q2⟩ := h
  cases rx
  cases ry
  obtain ⟨its, r1, p1, _⟩ := I.tuple ha
  obtain ⟨its2, r2, p2, _⟩ := I.tuple hb
  refine HT.cat_tup p1 p2 (fun z => hx (r1.nil_iff.mp z)) (fun z => ⟨.ref a, H, I, rfl, q1 (r2.nil_iff.mp z)⟩) (fun z => ?_) (by rw [← r1.length, ← r2.length]; exact hz)
  refine ⟨.ref s.heap.objs.size, _, I.laid (t' := s.toks) (o := .tup (xs ++ ys)) (fun b ob q => Heap.get?_push_of_some _ q) (Nat.le_refl _) ?_, rfl, q2 (fun w => z (r2.nil_iff.mpr w)) _ (I.hok.fresh (Nat.le_refl _))⟩
  exact ⟨by rw [List.length_append]; exact hz, _, r1.append r2, IsTup.new _ _⟩
end
end L2

namespace L2
open PySem PySem.Spec PyProof.Rows

def ixN (n : Nat) (i : Int) : Option Nat := if 0 ≤ i then (if i < n then some i.toNat else none) else if -(n : Int) ≤ i then some (i + n).toNat else none
def atI {α : Type} (xs : List α) (i : Int) : Option α := (ixN xs.length i).bind fun j => xs[j]?
theorem ixN_seq {n : Nat} {i : Int} {j : Nat} (h : ixN n i = some j) : seqIndex? i n = some j ∧ j < n ∧ -(n : Int) ≤ i ∧ i < n := by
  unfold ixN at h
  by_cases h0 : 0 ≤ i
  · rw [if_pos h0] at h
    by_cases h1 : i < n
    · rw [if_pos h1] at h
      have e : i.toNat = j := Option.some.inj h
      exact ⟨by rw [seqIndex_of h0 h1, e], by omega, by omega, h1⟩
    · rw [if_neg h1] at h; cases h
  · rw [if_neg h0] at h
    by_cases h1 : -(n : Int) ≤ i
    · rw [if_pos h1] at h
      have e : (i + n).toNat = j := Option.some.inj h
      exact ⟨by rw [seqIndex_neg (by omega) h1, e], by omega, h1, by omega⟩
    · rw [if_neg h1] at h; cases h
theorem atI_get {α : Type} {xs : List α} {i : Int} {v : α} (h : atI xs i = some v) : ∃ j, seqIndex? i xs.length = some j ∧ xs[j]? = some v ∧ j < xs.length ∧ -(xs.length : Int) ≤ i ∧ i < xs.length := by
  unfold atI at h
  cases e : ixN xs.length i with
  | none => rw [e] at h; cases h
  | some j =>
    rw [e] at h
    obtain ⟨h1, h2, h3, h4⟩ := ixN_seq e
    exact ⟨j, h1, h, h2, h3, h4⟩
def PlainIx (b : Expr) : Prop := ∀ o i, subscripted b false o i = operate [o, i] (getItem o i)
def IxR (X : Cx) (r : R2) : Prop :=
  ∀ (value slice : Expr) (pins : List (Addr × Obj)) (s : Shared) (σ : St) (H : Hp) (x y : V) (v u : Value) (Q : VK), Inv X pins σ H s → RelV x v → RelV y u → r x y H Q →
    subscripted slice false v u = operate [v, u] (getItem v u) → wpAny (model X.prog X.w) X.A (subscriptTail value slice v u) (EP X pins σ Q) X.xe s
def MtR (X : Cx) (id : String) (r : V → List V → Hp → VK → Prop) : Prop :=
  ∀ (pins : List (Addr × Obj)) (s : Shared) (σ : St) (H : Hp) (x : V) (xs : List V) (v : Value) (us : List Value) (Q : VK), Inv X pins σ H s → RelV x v → Vals xs us → r x xs H Q →
    wpAny (model X.prog X.w) X.A (call (.builtin id) (v :: us)) (EP X pins σ Q) X.xe s
section
variable {X : Cx} {a b : Expr} {ta tb : TE} {pos : Pos}
theorem IxR.or {r r' : R2} (h : IxR X r) (h' : IxR X r') : IxR X (fun x y H Q => r x y H Q ∨ r' x y H Q) := by
  intro value slice pins s σ H x y v u Q I rx ry q hs
  rcases q with q | q
  · exact h value slice pins s σ H x y v u Q I rx ry q hs
  · exact h' value slice pins s σ H x y v u Q I rx ry q hs
theorem MtR.or {id : String} {r r' : V → List V → Hp → VK → Prop} (h : MtR X id r) (h' : MtR X id r') : MtR X id (fun x xs H Q => r x xs H Q ∨ r' x xs H Q) := by
  intro pins s σ H x xs v us Q I rx rs q
  rcases q with q | q
  · exact h pins s σ H x xs v us Q I rx rs q
  · exact h' pins s σ H x xs v us Q I rx rs q
theorem pe_ix {r : R2} (hr : IxR X r) (ha : PE X a ta) (hb : PE X b tb) (hs : PlainIx b) : PE X (.Subscript a b pos) (tOp r ta tb) := by
  intro pins s σ H Q I h
  exact Subscript_ (binT ha hb I h fun v u s2 x y H2 I2 rx ry q => hr a b pins s2 σ H2 x y v u Q I2 rx ry q (hs _ _))

def rIxL (K : PySem.W.Frag) : R2 := fun x y H Q => ∃ p xs i v, x = .ref p ∧ y = .int i ∧ SqL K H p xs ∧ atI xs i = some v ∧ Q v H
def rIxT (K : PySem.W.Frag) : R2 := fun x y H Q => ∃ p xs i v, x = .ref p ∧ y = .int i ∧ SqT K H p xs ∧ atI xs i = some v ∧ Q v H
def rIxS : R2 := fun x y H Q => ∃ z i c, x = .str z ∧ y = .int i ∧ z.length ≤ sizeLine ∧ atI z.cps.toList i = some c ∧ Q (.str ⟨#[c]⟩) H
theorem ix_list : IxR X (rIxL X.K) := by
  intro value slice pins s σ H x y v u Q I rx ry h hs
  obtain ⟨p, xs, i, z, rfl, rfl, hq, he, q⟩ := h
  cases rx
  obtain ⟨t, rfl⟩ := ry
  obtain ⟨its, r, pl, hz⟩ := I.list hq
  obtain ⟨j, h1, h2, h3, h4, h5⟩ := atI_get he
  obtain ⟨w, ew, rw'⟩ := r.get h2
  have hl := r.length
  have hn := line63
  have fin : EP X pins σ Q w s := ⟨z, H, I, rw', q⟩
  by_cases h0 : 0 ≤ i
  · have hj : i.toNat = j := by
      rw [seqIndex_of h0 h5] at h1
      exact Option.some.inj h1
    exact item_listR pl.isList h0 (by omega) (by rw [hj]; simpa using ew) fin hs
  · have hj : (i + (its.toArray.size : Int)).toNat = j := by
      rw [seqIndex_neg (by omega) h4] at h1
      rw [List.size_toArray, ← hl]
      exact Option.some.inj h1
    exact subscriptTail_builtinR (x := w) pl.isList.typeIs slot_list_getitem.lookup
      (wpAny_getItem_list_neg (Q := fun r s' => r = w ∧ EP X pins σ Q r s') pl.isList (by omega) (by rw [List.size_toArray] <;> omega) (by omega) (by rw [hj]; simpa using ew) ⟨rfl, fin⟩) hs
theorem ix_tup : IxR X (rIxT X.K) := by
  intro value slice pins s σ H x y v u Q I rx ry h hs
  obtain ⟨p, xs, i, z, rfl, rfl, hq, he, q⟩ := h
  cases rx
  obtain ⟨t, rfl⟩ := ry
  obtain ⟨its, r, pl, hz⟩ := I.tuple hq
  obtain ⟨j, h1, h2, h3, h4, h5⟩ := atI_get he
  obtain ⟨w, ew, rw'⟩ := r.get h2
  have hl := r.length
  have hn := line63
  have fin : EP X pins σ Q w s := ⟨z, H, I, rw', q⟩
  exact subscriptTail_builtinR (x := w) pl.typeIs slot_tuple_getitem.lookup
    (getItem_tuple (j := j) (Q := fun r s' => r = w ∧ EP X pins σ Q r s') pl (by omega) (by omega) (by rw [List.size_toArray, ← hl]; exact h1) (by simpa using ew) ⟨rfl, fin⟩) hs
theorem ix_str : IxR X rIxS := by
  intro value slice pins s σ H x y v u Q I rx ry h hs
  obtain ⟨z, i, c, rfl, rfl, hz, he, q⟩ := h
  obtain ⟨t, rfl⟩ := rx
  obtain ⟨t', rfl⟩ := ry
  obtain ⟨j, h1, h2, h3, h4, h5⟩ := atI_get he
  have hl : z.cps.toList.length = z.length := by simp [Str.length]
  rw [hl] at h1 h4 h5
  have hn := line63
  exact tail_any (typeIs_str s z t) slot_str_getitem.lookup (getItem_str (c := c) (by
    have e1 : decide (i < -(2 ^ 63 : Int)) = false := decide_eq_false (by omega)
    have e2 : decide (i ≥ 2 ^ 63) = false := decide_eq_false (by omega)
    rw [e1, e2, Bool.or_false]) (by rw [h1]; simpa using h2) ⟨.str ⟨#[c]⟩, H, I.tok _, ⟨_, rfl⟩, q⟩) hs
def rIx (K : PySem.W.Frag) : R2 := fun x y H Q => rIxL K x y H Q ∨ rIxT K x y H Q ∨ rIxS x y H Q
theorem ix_seq : IxR X (rIx X.K) := ix_list.or (ix_tup.or ix_str)

theorem Inv.lst {pins : List (Addr × Obj)} {σ : St} {H : Hp} {s : Shared} {p : Addr} {xs : List V} (I : Inv X pins σ H s) (h : H p = some (.lst xs)) :
    ∃ (its : List Value) (n : Nat), Vals xs its ∧ s.heap.get? p = some { cls := .type "list", data := .seq its.toArray n } ∧ xs.length ≤ sizeLine := by
  obtain ⟨z, its, n, r, e⟩ := I.hok p _ h
  exact ⟨its, n, r, e, z⟩
theorem slice_bounds (lo hi : Option Int) (n : Nat) : (sliceBounds lo hi none n).1 = ((HT.sIx n 0 lo : Nat) : Int) ∧ (sliceBounds lo hi none n).2.1 = ((HT.sIx n n hi : Nat) : Int) ∧ (sliceBounds lo hi none n).2.2 = 1 := by
  refine ⟨?_, ?_, rfl⟩
  · cases lo with
    | none => simp [sliceBounds, HT.sIx]
    | some i =>
      simp only [sliceBounds, HT.sIx, Option.getD_none, show (1 : Int) > 0 by decide, if_true]
      by_cases h : i < 0
      · simp only [h, if_true] <;> omega
      · simp only [h, if_false] <;> omega
  · cases hi with
    | none => simp [sliceBounds, HT.sIx]
    | some i =>
      simp only [sliceBounds, HT.sIx, Option.getD_none, show (1 : Int) > 0 by decide, if_true]
      by_cases h : i < 0
      · simp only [h, if_true] <;> omega
      · simp only [h, if_false] <;> omega
theorem slicePick_cut (its : List Value) (lo hi : Option Int) : slicePick its.toArray lo hi none = ((its.drop (HT.sIx its.length 0 lo)).take (HT.sIx its.length its.length hi - HT.sIx its.length 0 lo)).toArray := by
  obtain ⟨h1, h2, h3⟩ := slice_bounds lo hi its.toArray.size
  unfold slicePick
  rw [h1, h2, h3]
  simp only [sliceRange_one, pick_run, List.size_toArray] <;> rfl
def rSlL (K : PySem.W.Frag) : V → Option Int → Option Int → Hp → VK → Prop := fun x lo hi H Q => ∃ a xs, x = .ref a ∧ SqL K H a xs ∧ ∀ p, H p = none → Q (.ref p) (upd H p (.lst (cutV xs lo hi)))
theorem sl_list : SlR X (rSlL X.K) := by
  intro pins s σ H x v vl vu lo hi sl Q I rx hs pl pu h
  obtain ⟨a, xs, rfl, hx, q⟩ := h
  cases rx
  obtain ⟨its, r, ht, hz⟩ := I.list hx
  have hlen := r.length
  refine ⟨"list", _, slot_list_getitem.lookup, ht.isList.typeIs, ?_⟩
  refine wpAny_getItem_list_slice ht.isList hs pl pu .none (by simp) ?_ (by rw [List.size_toArray] <;> omega)
  rw [slicePick_cut, ← hlen]
  refine ⟨.ref s.heap.objs.size, _, I.laid (t' := s.toks) (o := .lst (cutV xs lo hi)) (fun b ob q => Heap.get?_push_of_some _ q) (Nat.le_refl _) ?_, rfl, q _ (I.hok.fresh (Nat.le_refl _))⟩
  exact ⟨Nat.le_trans (cutV_length xs lo hi) hz, _, 0, (r.drop (HT.sIx xs.length 0 lo)).take (HT.sIx xs.length xs.length hi - HT.sIx xs.length 0 lo), Heap.get?_push_size _ rfl⟩

theorem CallR.or {f : Value} {r r' : List V → Hp → VK → Prop} (h : CallR X f r) (h' : CallR X f r') : CallR X f (fun xs H Q => r xs H Q ∨ r' xs H Q) := by
  intro pins s σ H xs us Q I rs q
  rcases q with q | q
  · exact h pins s σ H xs us Q I rs q
  · exact h' pins s σ H xs us Q I rs q
theorem call_list_of : CallR X (.type "list") (fun xs H Q => ∃ p ys, xs = [.ref p] ∧ (SqL X.K H p ys ∨ SqT X.K H p ys) ∧ ∀ l, H l = none → Q (.ref l) (upd H l (.lst ys))) := by
  intro pins s σ H xs us Q I r h
  obtain ⟨p, ys, rfl, hq, q⟩ := h
  obtain ⟨u, rfl, rx⟩ := vals1 r
  cases rx
  have fin : ∀ (its : List Value), Vals ys its → ys.length ≤ sizeLine → ∀ (h' : Heap) (c' : Nat), (∀ b o', s.heap.get? b = some o' → h'.get? b = some o') →
      h'.get? s.heap.objs.size = some { cls := .type "list", dict := none, data := .seq its.toArray c', slots := #[] } → EP X pins σ Q (.ref s.heap.objs.size) { s with heap := h' } := fun its r' hz h' c' kp e =>
    ⟨.ref s.heap.objs.size, _, I.laid (t' := s.toks) kp (Nat.le_refl _) (show ObjOk X.prog X.w _ h' _ (.lst ys) from ⟨hz, its, c', r', e⟩), rfl, q _ (I.hok.fresh (Nat.le_refl _))⟩
  rcases hq with hq | hq
  · obtain ⟨its, r', pl, hz⟩ := I.list hq
    have hlen := r'.length
    obtain ⟨o, ho, hc, n, hd⟩ := pl.isList
    exact call_list_seq p (.inl rfl) ho hc hd (fun h' c' kp e => fin its r' hz h' c' kp e) (by simp only [List.size_toArray] <;> omega)
  · obtain ⟨its, r', pl, hz⟩ := I.tuple hq
    have hlen := r'.length
    obtain ⟨o, ho, hc, n, hd⟩ := pl
    exact call_list_seq p (.inr rfl) ho hc hd (fun h' c' kp e => fin its r' hz h' c' kp e) (by simp only [List.size_toArray] <;> omega)
def tyV (K : PySem.W.Frag) (T : String) (x : V) (H : Hp) : Prop := match x with
  | .str _ => T = "str"
  | .int _ => T = "int"
  | .ref p => (T = "list" ∧ ∃ xs, SqL K H p xs) ∨ (T = "tuple" ∧ ∃ o, K.lookup p = some o ∧ o.cls = .type "tuple" ∧ o.dict = none) ∨
      (T = "dict" ∧ ((∃ kvs, H p = some (.dK kvs)) ∨ ∃ kvs, H p = some (.dT kvs))) ∨ (T = "set" ∧ ∃ S n, H p = some (.set S n))
  | _ => False
theorem tyV_is {pins : List (Addr × Obj)} {σ : St} {H : Hp} {s : Shared} {T : String} {x : V} {v : Value} (I : Inv X pins σ H s) (r : RelV x v) (ty : tyV X.K T x H) :
    s.TypeIs v T ∧ ∀ a, v = .ref a → ∃ ob, s.heap.get? a = some ob ∧ ob.dict = none := by
  cases x with
  | str z =>
    obtain ⟨t, rfl⟩ := r
    cases (show T = "str" from ty)
    exact ⟨typeIs_str s z t, fun _ e => nomatch e⟩
  | int i =>
    obtain ⟨t, rfl⟩ := r
    cases (show T = "int" from ty)
    exact ⟨typeIs_int s i t, fun _ e => nomatch e⟩
  | ref p =>
    cases r
    rcases ty with ⟨rfl, xs, hq⟩ | ⟨rfl, o, hk, hc, hd⟩ | ⟨rfl, hk⟩ | ⟨rfl, S, n, hk⟩
    · obtain ⟨its, _, pl, _⟩ := I.list hq
      refine ⟨pl.isList.typeIs, fun a e => ?_⟩
      cases e
      obtain ⟨o, n, e, c, hd, _⟩ := pl
      exact ⟨o, e, hd⟩
    · refine ⟨⟨o, I.kIn p o hk, hc⟩, fun a e => ?_⟩
      cases e
      exact ⟨o, I.kIn _ o hk, hd⟩
    · have z : ∃ o, s.heap.get? p = some o ∧ o.ExactDict := by
        rcases hk with ⟨kvs, hk⟩ | ⟨kvs, hk⟩
        · obtain ⟨_, _, _, _, o, _, _, e, ex, _⟩ := I.hok p _ hk
          exact ⟨o, e, ex⟩
        · obtain ⟨_, _, _, _, o, _, _, e, ex, _⟩ := I.hok p _ hk
          exact ⟨o, e, ex⟩
      obtain ⟨o, e, ex⟩ := z
      refine ⟨⟨o, e, ex.1⟩, fun a e2 => ?_⟩
      cases e2
      exact ⟨o, e, ex.2.1⟩
    · obtain ⟨o, _, _, _, e, ex, _⟩ := I.hok p _ hk
      refine ⟨⟨o, e, ex.1⟩, fun a e2 => ?_⟩
      cases e2
      exact ⟨o, e, ex.2.1⟩
  | _ => exact False.elim ty
def tBM (K : PySem.W.Frag) (T : String) (r : V → List V → Hp → VK → Prop) (to : TE) (t : TA) : TE := fun σ H Q => to σ H fun x H1 => tyV K T x H1 ∧ t σ H1 fun xs H2 => r x xs H2 Q
variable {o e : Expr} {es : List Expr} {to : TE} {t : TA} {name : Str} {apos cpos : Pos} {T id : String} {r : V → List V → Hp → VK → Prop}
theorem pe_bm (pa : PlainAttrs T) (slot : Slot T name id) (hty : typeOf (.builtin id) = pure (.type "method_descriptor")) (hm : MtR X id r) (ho : PE X o to) (ha : PA X (e :: es) t)
    (hbase : attributeBase o name X.env (eval o X.env) = eval o X.env := by rfl)
    (hfew : ((backTo cpos (starEach (e :: es) X.env)).all (fun x => !x.1) && (backToKw cpos (keywordEach [] X.env)).all (fun x => x.1.isSome)
      && decide ((e :: es).length + ([] : List Keyword).length + (if ([] : List Keyword).isEmpty then 0 else 1) < 30)) = true := by rfl)
    (hline : (apos.endLine == cpos.line) = true := by rfl) (hs : starEach (e :: es) X.env = (false, eval e X.env) :: starEach es X.env := by rfl) (hplain : (backTo cpos (starEach es X.env)).any (·.1) = false := by rfl) :
    PE X (.Call (.Attribute o name apos) (e :: es) [] cpos) (tBM X.K T r to t) := by
  intro pins s σ H Q I h
  refine wpAny_Call_method_late hbase hfew hline rfl (thn (ho pins s σ H _ I h) fun v s1 ⟨x, H1, I1, r1, ty, q1⟩ => ?_)
  obtain ⟨h1, h2⟩ := tyV_is I1 r1 ty
  refine ⟨T, id, pa, slot, hty, h1, h2, ?_⟩
  have hA := ha cpos pins s1 σ H1 _ I1 q1
  rw [hs] at hA ⊢
  refine Calls.callWith_builtin (by show (false || (backTo cpos (starEach es X.env)).any (·.1)) = false; rw [hplain] <;> rfl) (Calls.evalArgs_plain ?_)
  exact thn hA fun us s2 ⟨vs, H2, I2, r2, q2⟩ => hm pins s2 σ H2 x vs v us Q I2 r1 r2 q2
end
end L2

namespace L2
open PySem PySem.Spec PyProof.Rows

def MtM (X : Cx) (id : String) (r : V → List V → Hp → VK → Prop) : Prop :=
  ∀ (pins : List (Addr × Obj)) (s : Shared) (σ : St) (H : Hp) (x : V) (xs : List V) (v : Value) (us : List Value) (Q : VK), Inv X pins σ H s → RelV x v → Vals xs us → r x xs H Q →
    wpAny (model X.prog X.w) X.A (call (.builtin id) (v :: us)) (EP X pins σ Q) X.xe s

theorem Vals.one : ∀ {x : V} {us : List Value}, Vals [x] us → ∃ u, us = [u] ∧ RelV x u
  | _, _, .cons r .nil => ⟨_, rfl, r⟩
theorem Vals.two : ∀ {x y : V} {us : List Value}, Vals [x, y] us → ∃ u v, us = [u, v] ∧ RelV x u ∧ RelV y v
  | _, _, _, .cons r (.cons q .nil) => ⟨_, _, rfl, r, q⟩
theorem Vals.zero : ∀ {us : List Value}, Vals [] us → us = []
  | _, .nil => rfl
theorem Vals.reverse {xs : List V} {us : List Value} (h : Vals xs us) : Vals xs.reverse us.reverse := by
  induction h with
  | nil => exact .nil
  | cons r t ih => rw [List.reverse_cons, List.reverse_cons]; exact Vals.append ih (.cons r .nil)
section
variable {X : Cx} {pins : List (Addr × Obj)} {σ : St} {H : Hp} {s : Shared} {l b : Addr} {xs ys zs : List V}

theorem Inv.lset {its its' : List Value} {n : Nat} {f : Array Value → Array Value} {t' : Nat} (I : Inv X pins σ H s) (hH : H l = some (.lst xs))
    (e : s.heap.get? l = some { cls := .type "list", data := .seq its.toArray n }) (hf : f its.toArray = its'.toArray) (hv : Vals ys its') (hz : ys.length ≤ sizeLine) :
    Inv X pins σ (upd H l (.lst ys)) { s with heap := s.heap.update l (Obj.mapSeq f), toks := t' } := by
  have q := PySem.IsL.update e f
  rw [hf] at q
  refine I.write (x := l) (e := l) (by rw [hH]; exact trivial) (.inl rfl) (fun b' u hb hu => (Heap.get?_update_other s.heap (Obj.mapSeq f) (Ne.symm hb)).trans hu) ⟨_, q⟩ ?_
  exact ⟨hz, its', _, hv, q⟩
theorem Inv.lnew {its : List Value} {t' : Nat} (I : Inv X pins σ H s) (hv : Vals ys its) (hz : ys.length ≤ sizeLine) :
    Inv X pins σ (upd H s.heap.objs.size (.lst ys)) { s with heap := s.heap.push { cls := .type "list", data := .seq its.toArray }, toks := t' } :=
  I.laid (fun _ _ q => Heap.get?_push_of_some _ q) (Nat.le_refl _) ⟨hz, its, 0, hv, Heap.get?_push_size _ rfl⟩
theorem Inv.fresh (I : Inv X pins σ H s) : H s.heap.objs.size = none := I.hok.fresh (Nat.le_refl _)
theorem Inv.lstM (I : Inv X pins σ H s) (hH : H l = some (.lst xs)) : xs.length ≤ sizeLine ∧ ∃ (its : List Value) (n : Nat), Vals xs its ∧ xs.length = its.length ∧ s.heap.get? l = some { cls := .type "list", data := .seq its.toArray n } := by
  obtain ⟨z, its, n, r, e⟩ := I.hok l _ hH
  exact ⟨z, its, n, r, r.length, e⟩

end

section
variable {X : Cx}

def rAppend : V → List V → Hp → VK → Prop := fun x vs H Q => ∃ l xs y, x = .ref l ∧ vs = [y] ∧ H l = some (.lst xs) ∧ xs.length < sizeLine ∧ Q .non (upd H l (.lst (xs ++ [y])))
theorem mt_append : MtM X "list.append" rAppend := by
  intro pins s σ H x vs v us Q I rx rv h
  obtain ⟨l, xs, y, rfl, rfl, hH, hz, q⟩ := h
  cases rx
  obtain ⟨u, rfl, ru⟩ := rv.one
  obtain ⟨z, its, n, r, hl, e⟩ := I.lstM hH
  refine call_meets F.slot_list_append ⟨_, e, rfl⟩ F.entry_list_append (F.args_list_append_2 _ _) (PySem.list_append l its.toArray n u (by rw [List.size_toArray]; omega)) ⟨e, ?_⟩
  refine ⟨.non, _, I.lset (its' := its ++ [u]) hH e (by simp) (r.append (.cons ru .nil)) ?_, rfl, q⟩
  rw [List.length_append, List.length_singleton]
  omega

def rCat : R2 := fun x y H Q => ∃ l b xs zs, x = .ref l ∧ y = .ref b ∧ H l = some (.lst xs) ∧ H b = some (.lst zs) ∧ xs.length + zs.length ≤ sizeLine ∧ ∀ p, H p = none → Q (.ref p) (upd H p (.lst (xs ++ zs)))
theorem op_cat : OpR X (binaryOp .Add) rCat := by
  intro pins s σ H x y v u Q I rx ry h
  obtain ⟨l, b, xs, zs, rfl, rfl, hH, hB, hz, q⟩ := h
  cases rx
  cases ry
  obtain ⟨z, its, n, r, hl, e⟩ := I.lstM hH
  obtain ⟨z2, its2, n2, r2, hl2, e2⟩ := I.lstM hB
  refine PySem.P.add_list e e2 ?_ (by rw [List.size_toArray, List.size_toArray]; omega)
  have ea : its.toArray ++ its2.toArray = (its ++ its2).toArray := by simp
  rw [ea]
  exact ⟨.ref _, _, I.lnew (t' := s.toks) (r.append r2) (by rw [List.length_append]; omega), rfl, q _ I.fresh⟩
end

section
variable {prog : Program} {w : World} {A : Around} {E : Value → Shared → Prop} {s : Shared}
set_option maxRecDepth 100000 in
end

section
variable {X : Cx}
end
end L2

namespace L2
open PySem PySem.Spec PyProof.Rows

section
variable {κ : Type} [DecidableEq κ]
def valV (kvs : List (κ × V)) (k : κ) : Option V := (kvs.find? fun kv => decide (kv.1 = k)).map (·.2)
def putK (kvs : List (κ × V)) (k : κ) (v : V) : List (κ × V) :=
  if (kvs.any fun kv => decide (kv.1 = k)) = true then kvs.map (fun kv => if kv.1 = k then (kv.1, v) else kv) else kvs ++ [(k, v)]
def dropK (kvs : List (κ × V)) (k : κ) : List (κ × V) := kvs.filter fun kv => decide (kv.1 ≠ k)

theorem valV_pos {p : κ × V} {r : List (κ × V)} {k : κ} (e : p.1 = k) : valV (p :: r) k = some p.2 := by simp [valV, List.find?_cons, e]
theorem valV_neg {p : κ × V} {r : List (κ × V)} {k : κ} (e : ¬ p.1 = k) : valV (p :: r) k = valV r k := by simp [valV, List.find?_cons, e]
theorem valV_any (k : κ) : ∀ kvs : List (κ × V), (kvs.any fun kv => decide (kv.1 = k)) = (valV kvs k).isSome
  | [] => rfl
  | p :: r => by
    rw [List.any_cons]
    by_cases e : p.1 = k
    · simp only [valV_pos e, decide_eq_true e, Bool.true_or, Option.isSome_some]
    · rw [valV_neg e, decide_eq_false e, Bool.false_or]; exact valV_any k r
theorem valV_map (k j : κ) (y : V) : ∀ kvs : List (κ × V), valV (kvs.map fun kv => if kv.1 = k then (kv.1, y) else kv) j = (valV kvs j).map fun x => if j = k then y else x
  | [] => rfl
  | p :: r => by
    have ih := valV_map k j y r
    rw [List.map_cons]
    by_cases h : p.1 = k
    · rw [if_pos h]
      by_cases e : p.1 = j
      · rw [valV_pos (p := (p.1, y)) e, valV_pos e, Option.map_some, if_pos (e.symm.trans h)]
      · rw [valV_neg (p := (p.1, y)) e, valV_neg e, ih]
    · rw [if_neg h]
      by_cases e : p.1 = j
      · rw [valV_pos (p := p) e, valV_pos e, Option.map_some, if_neg (fun z => h (e.trans z))]
      · rw [valV_neg (p := p) e, valV_neg e, ih]
theorem valV_snoc (k j : κ) (y : V) : ∀ kvs : List (κ × V), valV kvs k = none → valV (kvs ++ [(k, y)]) j = if j = k then some y else valV kvs j
  | [], _ => by
    by_cases e : k = j
    · rw [if_pos e.symm]; exact valV_pos (p := (k, y)) e
    · rw [if_neg (fun z => e z.symm)]; exact valV_neg (p := (k, y)) e
  | p :: r, hn => by
    rw [List.cons_append]
    have hk : ¬ p.1 = k := fun z => by rw [valV_pos z] at hn; cases hn
    rw [valV_neg hk] at hn
    have ih := valV_snoc k j y r hn
    by_cases e : p.1 = j
    · rw [valV_pos e, valV_pos e, if_neg (fun z => hk (e.trans z))]
    · rw [valV_neg e, valV_neg e, ih]
theorem valV_put (kvs : List (κ × V)) (k j : κ) (y : V) : valV (putK kvs k y) j = if j = k then some y else valV kvs j := by
  unfold putK
  by_cases a : (kvs.any fun kv => decide (kv.1 = k)) = true
  · rw [if_pos a, valV_map]
    rw [valV_any] at a
    by_cases e : j = k
    · obtain ⟨x, hx⟩ := Option.isSome_iff_exists.mp a
      rw [if_pos e, e, hx, Option.map_some, if_pos rfl]
    · rw [if_neg e]
      cases valV kvs j with
      | none => rfl
      | some x => rw [Option.map_some, if_neg e]
  · rw [if_neg a]
    refine valV_snoc k j y kvs ?_
    rw [valV_any] at a
    cases q : valV kvs k with
    | none => rfl
    | some x => rw [q] at a; exact (a rfl).elim
theorem length_putK (kvs : List (κ × V)) (k : κ) (v : V) : (putK kvs k v).length ≤ kvs.length + 1 := by
  unfold putK
  split
  · rw [List.length_map]; omega
  · rw [List.length_append, List.length_cons, List.length_nil]; omega
theorem putK_new {kvs : List (κ × V)} {k : κ} (v : V) (h : valV kvs k = none) : putK kvs k v = kvs ++ [(k, v)] := by
  unfold putK
  rw [valV_any, h]
  exact if_neg (by decide)

theorem RelO.isSome_eq {o : Option V} {u : Option Value} (r : RelO o u) : o.isSome = u.isSome := by
  cases o with
  | none => cases u with
    | none => rfl
    | some _ => exact (show False from r).elim
  | some _ => cases u with
    | none => exact (show False from r).elim
    | some _ => rfl
theorem RelO.getD {o : Option V} {u : Option Value} {d : V} {d' : Value} (r : RelO o u) (rd : RelV d d') : RelV (o.getD d) (u.getD d') := by
  cases o with
  | none => cases u with
    | none => exact rd
    | some _ => exact (show False from r).elim
  | some _ => cases u with
    | none => exact (show False from r).elim
    | some _ => exact r

theorem KV.val {kvs : List (κ × V)} {vs : List (κ × Value)} (r : KV kvs vs) (k : κ) : RelO (valV kvs k) (valueAt vs k) := by
  unfold KV at r
  induction r with
  | nil => exact True.intro
  | @cons p q ps qs h t ih =>
    obtain ⟨h1, h2⟩ := h
    by_cases e : p.1 = k
    · have e' : q.1 = k := h1.symm.trans e
      have b : valueAt (q :: qs) k = some q.2 := by simp [valueAt, List.find?_cons, e']
      rw [valV_pos e, b]; exact h2
    · have e' : ¬ q.1 = k := fun z => e (h1.trans z)
      have b : valueAt (q :: qs) k = valueAt qs k := by simp [valueAt, List.find?_cons, e']
      rw [valV_neg e, b]; exact ih
theorem KV.any {kvs : List (κ × V)} {vs : List (κ × Value)} (r : KV kvs vs) (k : κ) : (kvs.any fun kv => decide (kv.1 = k)) = vs.any fun kv => decide (kv.1 = k) := by
  unfold KV at r
  induction r with
  | nil => rfl
  | cons h t ih => rw [List.any_cons, List.any_cons, ih, h.1]
theorem KV.repl {kvs : List (κ × V)} {vs : List (κ × Value)} (r : KV kvs vs) (k : κ) {y : V} {u : Value} (ry : RelV y u) :
    KV (kvs.map fun kv => if kv.1 = k then (kv.1, y) else kv) (vs.map fun kv => if kv.1 = k then (kv.1, u) else kv) := by
  unfold KV at r ⊢
  induction r with
  | nil => exact .nil
  | @cons p q ps qs h t ih =>
    rw [List.map_cons, List.map_cons]
    refine .cons ?_ ih
    obtain ⟨h1, h2⟩ := h
    by_cases e : p.1 = k
    · rw [if_pos e, if_pos (h1.symm.trans e)]; exact ⟨h1, ry⟩
    · rw [if_neg e, if_neg (fun z => e (h1.trans z))]; exact ⟨h1, h2⟩
theorem KV.put {kvs : List (κ × V)} {vs : List (κ × Value)} (r : KV kvs vs) (k : κ) {y : V} {u : Value} (ry : RelV y u) : KV (putK kvs k y) (stored vs k u) := by
  unfold putK stored
  rw [r.any k]
  by_cases e : (vs.any fun kv => decide (kv.1 = k)) = true
  · rw [if_pos e, if_pos e]; exact r.repl k ry
  · rw [if_neg e, if_neg e]; exact Paired.snoc r ⟨rfl, ry⟩
theorem KV.drop {kvs : List (κ × V)} {vs : List (κ × Value)} (r : KV kvs vs) (k : κ) : KV (dropK kvs k) (without vs k) := by
  unfold KV at r ⊢
  unfold dropK without
  induction r with
  | nil => exact .nil
  | @cons p q ps qs h t ih =>
    obtain ⟨h1, h2⟩ := h
    rw [List.filter_cons, List.filter_cons]
    by_cases e : p.1 = k
    · have a : ¬ decide (p.1 ≠ k) = true := by simp [e]
      have b : ¬ decide (q.1 ≠ k) = true := by simp [h1.symm.trans e]
      rw [if_neg a, if_neg b]; exact ih
    · have e' : ¬ q.1 = k := fun z => e (h1.trans z)
      have a : decide (p.1 ≠ k) = true := by simp [e]
      have b : decide (q.1 ≠ k) = true := by simp [e']
      rw [if_pos a, if_pos b]; exact .cons ⟨h1, h2⟩ ih
theorem KV.keys {kvs : List (κ × V)} {vs : List (κ × Value)} (r : KV kvs vs) : kvs.map (·.1) = vs.map (·.1) := by
  unfold KV at r
  induction r with
  | nil => rfl
  | cons h t ih => rw [List.map_cons, List.map_cons, ih, h.1]
theorem KV.length {kvs : List (κ × V)} {vs : List (κ × Value)} (r : KV kvs vs) : kvs.length = vs.length := Paired.length r
end


theorem kV_is {P : Program} {w : World} {k : Key} {u : Value} (r : RelV (kV k) u) : (mixKind P w).is k u = true := by
  cases k with
  | inl i => obtain ⟨t, e⟩ := (show ∃ t, u = Value.int i t from r); subst e; exact mixKind_int P w i t
  | inr x => obtain ⟨t, e⟩ := (show ∃ t, u = Value.str x t from r); subst e; exact mixKind_str P w x t
theorem kV_inj {a b : Key} (e : kV a = kV b) : a = b := by
  cases a with
  | inl i => cases b with
    | inl j => have e' : V.int i = V.int j := e; injection e' with e'; rw [e']
    | inr y => exact nomatch (show V.int i = V.str y from e)
  | inr x => cases b with
    | inl j => exact nomatch (show V.str x = V.int j from e)
    | inr y => have e' : V.str x = V.str y := e; injection e' with e'; rw [e']
theorem kVs_inj : ∀ {a b : List Key}, a.map kV = b.map kV → a = b
  | [], [], _ => rfl
  | [], _ :: _, e => by simp at e
  | _ :: _, [], e => by simp at e
  | x :: xs, y :: ys, e => by
    rw [List.map_cons, List.map_cons] at e
    injection e with e1 e2
    rw [kV_inj e1, kVs_inj e2]
theorem items_are {P : Program} {w : World} : ∀ {ks : List Key} {us : List Value}, Vals (ks.map kV) us → ItemsAre (mixKind P w) ks us
  | [], _, r => by rw [List.map_nil] at r; cases r; exact .nil
  | k :: ks, _, r => by
    rw [List.map_cons] at r
    cases r with
    | cons h t => exact .cons (kV_is h) (items_are t)

abbrev KT (H : Hp) : List (List Key × V) → List (List Key × Addr × Value) → Prop := Paired fun p q => p.1 = q.1 ∧ H q.2.1 = some (.tup (p.1.map kV)) ∧ RelV p.2 q.2.2
theorem KT.val {H : Hp} {kvs : List (List Key × V)} {xs : List (List Key × Addr × Value)} (r : KT H kvs xs) (k : List Key) : RelO (valV kvs k) ((atKey xs k).map (·.2)) := by
  induction r with
  | nil => exact True.intro
  | @cons p q ps qs h t ih =>
    obtain ⟨h1, _, h2⟩ := h
    by_cases e : p.1 = k
    · have e' : q.1 = k := h1.symm.trans e
      have b : atKey (q :: qs) k = some q.2 := by simp [atKey, List.find?_cons, e']
      rw [valV_pos e, b]; exact h2
    · have e' : ¬ q.1 = k := fun z => e (h1.trans z)
      have b : atKey (q :: qs) k = atKey qs k := by simp [atKey, List.find?_cons, e']
      rw [valV_neg e, b]; exact ih
theorem KT.repl {H : Hp} {kvs : List (List Key × V)} {xs : List (List Key × Addr × Value)} (r : KT H kvs xs) (k : List Key) {y : V} {u : Value} (ry : RelV y u) :
    KT H (kvs.map fun kv => if kv.1 = k then (kv.1, y) else kv) (xs.map (putAt k u)) := by
  induction r with
  | nil => exact .nil
  | @cons p q ps qs h t ih =>
    rw [List.map_cons, List.map_cons]
    refine .cons ?_ ih
    obtain ⟨h1, h2, h3⟩ := h
    unfold putAt
    by_cases e : p.1 = k
    · rw [if_pos e, if_pos (h1.symm.trans e)]; exact ⟨h1, h2, ry⟩
    · rw [if_neg e, if_neg (fun z => e (h1.trans z))]; exact ⟨h1, h2, h3⟩
theorem KT.put {H : Hp} {kvs : List (List Key × V)} {xs : List (List Key × Addr × Value)} (r : KT H kvs xs) (k : List Key) {b : Addr} {y : V} {u : Value} (hb : H b = some (.tup (k.map kV))) (ry : RelV y u) :
    KT H (putK kvs k y) (storedH xs k b u) := by
  have e : (kvs.any fun kv => decide (kv.1 = k)) = (atKey xs k).isSome := by
    rw [valV_any, (r.val k).isSome_eq, Option.isSome_map]
  unfold putK storedH
  rw [e]
  by_cases q : (atKey xs k).isSome = true
  · rw [if_pos q, if_pos q]; exact r.repl k ry
  · rw [if_neg q, if_neg q]; exact Paired.snoc r ⟨rfl, hb, ry⟩
theorem KT.keeps {H H' : Hp} {kvs : List (List Key × V)} {xs : List (List Key × Addr × Value)} (r : KT H kvs xs) (ht : ∀ b ys, H b = some (.tup ys) → H' b = some (.tup ys)) : KT H' kvs xs :=
  Paired.mapP r fun _ _ z => ⟨z.1, ht _ _ z.2.1, z.2.2⟩

section
variable {P : Program} {w : World} {H : Hp} {h : Heap} {a : Addr}
theorem rd_of {u : HO} (ok : HOk P w H h) (e : Rd H a u) : ObjOk P w H h a u := e.ok ok
theorem dk_rd {kvs : List (Key × V)} (ok : HOk P w H h) (e : Rd H a (.dK kvs)) : kvs.length ≤ sizeLine ∧ (a == sysModules) = false ∧ ∃ vs, KV kvs vs ∧ h.DictOf (mixKind P w) a vs :=
  show ObjOk P w H h a (.dK kvs) from rd_of ok e
theorem dk_of {kvs : List (Key × V)} (ok : HOk P w H h) (e : H a = some (.dK kvs)) : kvs.length ≤ sizeLine ∧ (a == sysModules) = false ∧ ∃ vs, KV kvs vs ∧ h.DictOf (mixKind P w) a vs := dk_rd ok (.inl e)
theorem key_of {ks : List Key} (ok : HOk P w H h) (e : H a = some (.tup (ks.map kV))) : (tupleKind (mixKind P w)).is h ks a := by
  obtain ⟨_, its, r, o, h1, h2, n, h3⟩ := (show ObjOk P w H h a (.tup (ks.map kV)) from ok a _ e)
  exact ⟨o, its.toArray, n, h1, h2, h3, by simpa using items_are r⟩
theorem dt_rd {kvs : List (List Key × V)} (ok : HOk P w H h) (e : Rd H a (.dT kvs)) : kvs.length ≤ sizeLine ∧ (a == sysModules) = false ∧
    ∃ xs, KT H kvs xs ∧ h.DictOfH (tupleKind (mixKind P w)) a xs := by
  obtain ⟨z, y, xs, r, o, es, ep, h1, h2, h3, h4, h5⟩ := (show ObjOk P w H h a (.dT kvs) from rd_of ok e)
  refine ⟨z, y, xs, r, o, es, ep, h1, h2, h3, h4, fun x hx => ?_, h5⟩
  have all : ∀ {l : List (List Key × V)} {m : List (List Key × Addr × Value)}, KT H l m → ∀ x ∈ m, (tupleKind (mixKind P w)).is h x.1 x.2.1 := by
    intro l m q
    induction q with
    | nil => intro x hx; exact nomatch hx
    | @cons p q ps qs hq t ih =>
      intro x hx
      rcases List.mem_cons.mp hx with e | hx
      · subst e
        exact key_of ok (by rw [← hq.1]; exact hq.2.1)
      · exact ih x hx
  exact all r x hx
theorem dt_of {kvs : List (List Key × V)} (ok : HOk P w H h) (e : H a = some (.dT kvs)) : kvs.length ≤ sizeLine ∧ (a == sysModules) = false ∧
    ∃ xs, KT H kvs xs ∧ h.DictOfH (tupleKind (mixKind P w)) a xs := dt_rd ok (.inl e)
end

def DGet (H : Hp) (a : Addr) (y : V) (r : Option V) : Prop :=
  (∃ kvs k, Rd H a (.dK kvs) ∧ y = kV k ∧ r = valV kvs k) ∨ ∃ kvs k b, Rd H a (.dT kvs) ∧ y = .ref b ∧ H b = some (.tup (k.map kV)) ∧ r = valV kvs k
def DPut (H : Hp) (a : Addr) (y v : V) (H' : Hp) : Prop :=
  (∃ kvs k, H a = some (.dK kvs) ∧ y = kV k ∧ kvs.length < sizeLine ∧ H' = upd H a (.dK (putK kvs k v))) ∨
  ∃ kvs k b, H a = some (.dT kvs) ∧ y = .ref b ∧ H b = some (.tup (k.map kV)) ∧ kvs.length < sizeLine ∧ H' = upd H a (.dT (putK kvs k v))
theorem DGet.k {H : Hp} {a : Addr} {kvs : List (Key × V)} {k : Key} (e : H a = some (.dK kvs)) : DGet H a (kV k) (valV kvs k) := .inl ⟨kvs, k, .inl e, rfl, rfl⟩
theorem DGet.t {H : Hp} {a b : Addr} {kvs : List (List Key × V)} {k : List Key} (e : H a = some (.dT kvs)) (eb : H b = some (.tup (k.map kV))) : DGet H a (.ref b) (valV kvs k) := .inr ⟨kvs, k, b, .inl e, rfl, eb, rfl⟩
theorem DPut.k {H : Hp} {a : Addr} {kvs : List (Key × V)} {k : Key} {v : V} (e : H a = some (.dK kvs)) (hl : kvs.length < sizeLine) : DPut H a (kV k) v (upd H a (.dK (putK kvs k v))) := .inl ⟨kvs, k, e, rfl, hl, rfl⟩
theorem DPut.t {H : Hp} {a b : Addr} {kvs : List (List Key × V)} {k : List Key} {v : V} (e : H a = some (.dT kvs)) (eb : H b = some (.tup (k.map kV))) (hl : kvs.length < sizeLine) :
    DPut H a (.ref b) v (upd H a (.dT (putK kvs k v))) := .inr ⟨kvs, k, b, e, rfl, eb, hl, rfl⟩


section
variable {X : Cx} {pins : List (Addr × Obj)} {σ : St} {H : Hp} {s : Shared} {a : Addr} {y v : V} {u r : Value} {o : Option V} {A : Around} {E : Value → Shared → Prop}

theorem Inv.big (I : Inv X pins σ H s) : sysModules < s.heap.objs.size := by
  have h : mainGlobals < s.heap.objs.size := (I.mod.glob.keeps I.bk).lt
  exact Nat.lt_trans (by decide) h

theorem d_getItem {Q : Value → Shared → Prop} (hu : A.units + 1 < cLine) (I : Inv X pins σ H s) (g : DGet H a y (some v)) (ry : RelV y u) (h : ∀ w' s', Inv X pins σ H s' → RelV v w' → Q w' s') :
    wpAny (model X.prog X.w) A (getItem (.ref a) u) Q E s := by
  rcases g with ⟨kvs, k, e, ey, l⟩ | ⟨kvs, k, b, e, ey, eb, l⟩
  · subst ey
    obtain ⟨z, hd, vs, rel, dd⟩ := dk_rd I.hok e
    obtain ⟨w', hw, rw'⟩ := RelO.some_of (v := v) (o := valueAt vs k) (by rw [l]; exact rel.val k)
    exact wpAny_getItem_of (kV_is ry) dd.mapOf hw (h w' _ (I.tok _) rw')
  · subst ey
    cases (show u = Value.ref b from ry)
    obtain ⟨z, hd, xs, rel, dd⟩ := dt_rd I.hok e
    obtain ⟨w', hw, rw'⟩ := RelO.some_of (v := v) (o := (atKey xs k).map (·.2)) (by rw [l]; exact rel.val k)
    obtain ⟨p, hp, hp2⟩ := Option.map_eq_some_iff.mp hw
    refine wpAny_getItem_heap (tupleKind_room_in1 hu) (key_of I.hok eb) dd hp ?_
    rw [hp2]
    exact h w' _ (I.tok _) rw'
theorem d_write {h' : Heap} {t' : Nat} {ob : HO} (I : Inv X pins σ H s) (mu : Mut (H a)) (hs : Heap.SameBut a s.heap h') (he : ∃ q, h'.get? a = some q) (new : ObjOk X.prog X.w (upd H a ob) h' a ob) :
    Inv X pins σ (upd H a ob) { s with heap := h', toks := t' } :=
  I.write (x := a) (e := a) mu (.inl rfl) (fun b q hb z => (hs.2 b hb).trans z) he new
theorem dk_new {P : Program} {w : World} {H' : Hp} {h' : Heap} {kvs : List (Key × V)} {vs : List (Key × Value)} (z : kvs.length ≤ sizeLine) (hd : (a == sysModules) = false) (rel : KV kvs vs) (dd : h'.DictOf (mixKind P w) a vs) :
    ObjOk P w H' h' a (.dK kvs) := ⟨z, hd, vs, rel, dd⟩
end

section
variable {X : Cx} {pins : List (Addr × Obj)} {σ : St} {H : Hp} {s : Shared} {a : Addr} {kvs : List (Key × V)} {k : Key} {u : Value} {A : Around} {E : Value → Shared → Prop}
theorem d_len {Q : Value → Shared → Prop} (I : Inv X pins σ H s) (e : Rd H a (.dK kvs)) (h : ∀ t s', Inv X pins σ H s' → Q (.int kvs.length t) s') : wpAny (model X.prog X.w) A (call (.builtin "len") [.ref a]) Q E s := by
  obtain ⟨z, hd, vs, rel, dd⟩ := dk_rd I.hok e
  refine call_len_dict hd dd (by rw [← rel.length]; rw [sizeLine_eq] at z; omega) ?_
  rw [← rel.length]
  exact h _ _ (I.tok _)
end


theorem dict_typeIs {X : Cx} {pins : List (Addr × Obj)} {σ : St} {H : Hp} {s : Shared} {a : Addr} {y : V} {o : Option V} (I : Inv X pins σ H s) (g : DGet H a y o) : s.TypeIs (.ref a) "dict" := by
  rcases g with ⟨kvs, k, e, _, _⟩ | ⟨kvs, k, b, e, _, _, _⟩
  · obtain ⟨_, _, vs, _, dd⟩ := dk_rd I.hok e
    exact dd.typeIs
  · obtain ⟨_, _, xs, _, dd⟩ := dt_rd I.hok e
    exact dd.typeIs
section
variable {X : Cx} {o i e value : Expr} {pos pos' tpos : Pos} {td ty tv : TE}
end


theorem dk_empty {P : Program} {w : World} {H : Hp} (h : Heap) (hb : sysModules < h.objs.size) : ObjOk P w H (h.push { cls := .type "dict", data := .dict #[] }) h.objs.size (.dK []) :=
  ⟨Nat.zero_le _, beq_eq_false_iff_ne.mpr (Ne.symm (Nat.ne_of_lt hb)), [], .nil, Heap.DictOf.new h⟩
theorem dt_empty {P : Program} {w : World} {H : Hp} (h : Heap) (hb : sysModules < h.objs.size) : ObjOk P w H (h.push { cls := .type "dict", data := .dict #[] }) h.objs.size (.dT []) :=
  ⟨Nat.zero_le _, beq_eq_false_iff_ne.mpr (Ne.symm (Nat.ne_of_lt hb)), [], .nil, _, #[], 0, Heap.get?_push_size _ rfl, ⟨rfl, rfl, rfl⟩, rfl, rfl, List.nodup_nil⟩
def tDNewK : TE := fun _ H Q => ∀ p, H p = none → Q (.ref p) (upd H p (.dK []))
def tDNewT : TE := fun _ H Q => ∀ p, H p = none → Q (.ref p) (upd H p (.dT []))
section
variable {X : Cx} {pos : Pos}
theorem pe_dnewK : PE X (.Dict [] [] pos) tDNewK := fun pins s σ H Q I h =>
  wpAny_Dict_empty ⟨.ref s.heap.objs.size, _, I.laid (a := s.heap.objs.size) (o := .dK []) (t' := s.toks) (fun _ _ q => Heap.get?_push_of_some _ q) (Nat.le_refl _) (dk_empty s.heap I.big), rfl, h _ (I.hok.fresh (Nat.le_refl _))⟩
theorem pe_dnewT : PE X (.Dict [] [] pos) tDNewT := fun pins s σ H Q I h =>
  wpAny_Dict_empty ⟨.ref s.heap.objs.size, _, I.laid (a := s.heap.objs.size) (o := .dT []) (t' := s.toks) (fun _ _ q => Heap.get?_push_of_some _ q) (Nat.le_refl _) (dt_empty s.heap I.big), rfl, h _ (I.hok.fresh (Nat.le_refl _))⟩
end

def tPairs : List (TE × TE) → St → Hp → (List (V × V) → Hp → Prop) → Prop
  | [], _, H, Q => Q [] H
  | (tk, tv) :: r, σ, H, Q => tk σ H fun x H1 => tv σ H1 fun y H2 => tPairs r σ H2 fun ps H3 => Q ((x, y) :: ps) H3
abbrev VV : List (V × V) → List (Value × Value) → Prop := Paired fun p q => RelV p.1 q.1 ∧ RelV p.2 q.2
def PPs (X : Cx) (pos : Pos) (keys : List (Option Expr)) (values : List Expr) (trs : List (TE × TE)) : Prop :=
  ∀ (pins : List (Addr × Obj)) (s : Shared) (σ : St) (H : Hp) (Q : List (V × V) → Hp → Prop), Inv X pins σ H s → tPairs trs σ H Q →
    wpAny (model X.prog X.w) X.A (evalPairs (pairTrees keys values X.env pos)) (fun vs s' => ∃ ps H', Inv X pins σ H' s' ∧ VV ps vs ∧ Q ps H') X.xe s
structure M1 (X : Cx) (o : Expr) (m : Str) (apos : Pos) (e : Expr) (cpos : Pos) : Prop where
  base : attributeBase o m X.env (eval o X.env) = eval o X.env
  few : ((backTo cpos (starEach [e] X.env)).all (fun x => !x.1) && (backToKw cpos (keywordEach [] X.env)).all (fun x => x.1.isSome)
    && decide (([e] : List Expr).length + ([] : List Keyword).length + (if ([] : List Keyword).isEmpty then 0 else 1) < 30)) = true
  line : (apos.endLine == cpos.line) = true
  trees : backTo cpos (starEach [e] X.env) = [(false, eval e X.env)]
structure M2 (X : Cx) (o : Expr) (m : Str) (apos : Pos) (e f : Expr) (cpos : Pos) : Prop where
  base : attributeBase o m X.env (eval o X.env) = eval o X.env
  few : ((backTo cpos (starEach [e, f] X.env)).all (fun x => !x.1) && (backToKw cpos (keywordEach [] X.env)).all (fun x => x.1.isSome)
    && decide (([e, f] : List Expr).length + ([] : List Keyword).length + (if ([] : List Keyword).isEmpty then 0 else 1) < 30)) = true
  line : (apos.endLine == cpos.line) = true
  trees : backTo cpos (starEach [e, f] X.env) = [(false, eval e X.env), (false, eval f X.env)]

section
variable {X : Cx} {pins : List (Addr × Obj)} {σ : St} {H : Hp} {s : Shared} {a : Addr} {y d : V} {u r : Value} {o : Option V} {A : Around} {E : Value → Shared → Prop}
end

section
variable {X : Cx} {o e f : Expr} {apos cpos : Pos} {td ty tx : TE}
end

section
variable {X : Cx} {pins : List (Addr × Obj)} {σ : St} {H : Hp} {s : Shared} {a : Addr} {kvs : List (Key × V)} {A : Around} {E : Value → Shared → Prop}
end


section
variable {X : Cx} {pins : List (Addr × Obj)} {σ : St} {H : Hp} {s : Shared} {a : Addr} {y : V} {u : Value} {A : Around} {E : Value → Shared → Prop}
end
end L2

namespace Att
open PySem PySem.W PySem.Calls PyProof.Rows

theorem ints_of_wellAll {P : Params} {h : Heap} : ∀ (ns : List Int) (vs : List Value), WellAll P h vs (ns.map WData.int) → IntsAre vs ns := by
  intro ns
  induction ns with
  | nil =>
    intro vs w
    rw [List.map_nil] at w
    cases w
    exact .nil
  | cons n ns ih =>
    intro vs w
    rw [List.map_cons] at w
    cases w with
    | cons a b =>
      cases a
      exact .cons _ _ (ih _ b)

theorem script_of {l : OpenLaw} {n : Nat} (hn : l.most = some n) {P : Params} {h : Heap} {args : List WData} {vals : List Value}
    (hpre : l.row.toRowW.claim.pre args = true) (hwl : WellAll P h vals args) :
    ∃ a vs ns, vals = [Value.ref a] ∧ args = [WData.list (ns.map WData.int)] ∧ h.get? a = some { cls := .type "list", data := .seq vs.toArray } ∧ IntsAre vs ns ∧ ns.length ≤ n := by
  have hsh : WShape.hasAll [] args [.list .int] = true := (pre_splitW hpre).1
  have hc : l.pre.holds [] { args := args } = true := (pre_splitW hpre).2
  obtain ⟨d, r, rfl, h1, h2⟩ := hasAllW_cons hsh
  obtain rfl := hasAllW_nil h2
  obtain ⟨xs, rfl, h3⟩ := hasW_list h1
  obtain ⟨ns, rfl⟩ := items_int h3
  have hlen : ns.length ≤ n := by
    unfold OpenLaw.pre at hc
    have h4 : (WTm.not (.lt (.lit (.int (n : Int))) (.len (.arg 0)))).holds [] { args := [.list (ns.map .int)] } = true := by
      have h4 := (holds_andW hc).1
      rw [hn] at h4
      exact h4
    have h5 := condW_of h4 (w_not (w_lt w_lit (w_len_list (w_arg rfl))))
    rw [List.length_map] at h5
    refine Nat.le_of_not_lt fun q => ?_
    have q' : (n : Int) < ((ns.length : Nat) : Int) := by omega
    first
      | (rw [decide_eq_true q'] at h5; exact absurd h5 (by decide))
      | (simp at h5; omega)
  cases hwl with
  | cons w1 w2 =>
    cases w2
    cases w1 with
    | list ho hall => exact ⟨_, _, ns, rfl, rfl, ho, ints_of_wellAll ns _ hall, hlen⟩

theorem post_true (l : OpenLaw) (args : List WData) : l.row.toRowW.claim.post args (.bool true) args = true :=
  postW_of (r := l.row.toRowW) (X := (true == true))
    (show WShape.has [] (.bool true) .bool = true by first | rfl | decide | simp [WShape.has, WShape.arms, WShape.armsAll])
    (show (WTm.eq .res (.lit (.bool true))).value [] { args := args, res := some (.bool true), after := args } = some (.bool (true == true)) from w_eq_bool (w_res rfl) w_lit) rfl

theorem attach_call {l : OpenLaw} {n : Nat} {q : Program} {loose : List Str} {XP : (Str → Option Value) → Heap → Prop} {YP : World → Heap → Prop} {d : DefRec}
    (hn : l.most = some n) (hdf : d.params.defaults = [])
    (call : ∀ (w : World) (s₀ s₁ : Shared) (mg mb : Str → Option Value) (fa : Addr) (o : Obj) (pm cd doc : Value) (a : Addr) (vs : List Value) (ns : List Int),
      Ground q loose [] XP w s₀ mg mb s₁.heap → YP w s₁.heap →
      s₁.heap.get? fa = some o → o.data = .func (docDef d.name d.params d.body d.scope pm cd doc) → s₁.heap.CodeRec cd d.name → mg d.name = some (.ref fa) →
      s₁.heap.get? a = some { cls := .type "list", data := .seq vs.toArray } → IntsAre vs ns → ns.length ≤ n → s₁.gens = #[] →
      codeAny (model l.prog w) callerA (.call (.ref fa) ⟨[.ref a], []⟩) (fun r s' => r = .ok (.ret (.bool true)) ∧ OldK s₁.heap s'.heap ∧ s'.os = s₁.os ∧ AllBare s'.gens) s₁) :
    WalkO q loose XP YP l.row.toRowW d [] (fun f vs => PySem.call f vs) := by
  intro w s₀ s₁ mg mb G Y fa o pm cd doc dV kV ho hd hcd hD hmg hg args vals as hpre hlay hrd hwl hlo
  obtain rfl : dV = .none := Dflts.none hD hdf
  obtain rfl : kV = .none := Dflts.noKw hD
  obtain ⟨a, vs, ns, rfl, rfl, hobj, hints, hlen⟩ := script_of hn hpre hwl
  refine enter_call (codeAny_mono (call w s₀ s₁ mg mb fa o pm cd doc a vs ns G Y ho (fd_plain hd) hcd hmg hobj hints hlen hg) fun r s' hq => ?_)
  obtain ⟨rfl, h2, h3, h4⟩ := hq
  exact ⟨.inl ⟨.bool true, .bool true, [], rfl, fun _ => rfl, .bool true, post_true l _, fun _ => ⟨List.Pairwise.nil, fun _ hm => (nomatch hm)⟩⟩, h2, h3, h4⟩

section
variable {prog : Program} {w : World} {A : Around} {E : Value → Shared → Prop} {s : Shared} {K : Frag}

end
end Att

namespace L2
open PySem PySem.Spec PyProof.Rows

theorem vals_ints : ∀ {vs : List Value} {ns : List Int}, IntsAre vs ns → Vals (ns.map V.int) vs
  | _, _, .nil => .nil
  | _, _, .cons n t h => .cons ⟨t, rfl⟩ (vals_ints h)

end L2

namespace L2
open PySem PySem.Spec PyProof.Rows

end L2



namespace L2
open PySem PySem.Spec PyProof.Rows

def defArgs (s : Stmt) : Arguments := match s with
  | .FunctionDef _ a _ _ _ _ _ _ _ _ => a
  | _ => { posonlyargs := [], args := [], vararg := none, kwonlyargs := [], kw_defaults := [], kwarg := none, defaults := [] }
def defBody (s : Stmt) : List Stmt := match s with
  | .FunctionDef _ _ b _ _ _ _ _ _ _ => b
  | _ => []
def defScope (s : Stmt) : Scope := match s with
  | .FunctionDef _ _ _ _ _ _ sc _ _ _ => sc
  | _ => { kind := .function, names := [], isGenerator := false, isCoroutine := false }

abbrev CX0 : CXT := fun _ _ _ _ _ _ => False
abbrev E0 : XK := fun _ _ _ => False
structure Fun (K : PySem.W.Frag) (x qual : Str) (st : Stmt) (f : Addr) (fd : FuncData) : Prop where
  ex : ∃ (oc : Value) (od : Option Addr) (kV doc pm : Value) (an : Option Addr) (cdv ct : Value) (osl : Array (Option Value)),
    fd = PySem.W.fnOf x qual (defArgs st) (defBody st) (defScope st) .none kV doc pm an cdv ct ∧ K.lookup f = some ⟨oc, od, .func fd, osl⟩ ∧ PySem.W.codeIn K cdv qual = true
  kp : PySem.W.keepIn K (.ref f) = true
section
variable {P : Program} {w : World} {K : PySem.W.Frag} {mg : Str → Option Value} {base : Heap}
theorem Fun.ok {x qual : Str} {st : Stmt} {f : Addr} {fd : FuncData} {N ps : List Str} {k : Nat} {sp : Sp} (F : Fun K x qual st f fd) (S : FnScope N ps (defScope st)) (len : ∀ vs H Q E, sp vs H Q E → vs.length = ps.length)
    (hbody : ∀ (cdv : Value) (A : Around) (outer : List Env) (s : Shared) (H : Hp) (vs : List V) (Q : VK) (E : XK), Room k (A.deeper (envOfC qual (defScope st) s.heap.objs.size f cdv)) → sp vs H Q E →
      ∃ t, PSs (cxOf CX0 P w K mg base N qual (defScope st) f cdv A outer s H E).nox (defBody st) t ∧ t { nx := fun _ H' => Q .non H', rt := Q } (start N vs) H) : FnOk P w K mg base CX0 (k + 1) f fd ps sp := by
  obtain ⟨oc, od, kV, doc, pm, an, cdv, ct, osl, rfl, lk, hcd⟩ := F.ex
  refine fn_of lk hcd S len fun A outer s H vs Q E hr hsp => ?_
  obtain ⟨t, h, q⟩ := hbody cdv A outer s H vs Q E hr hsp
  exact ⟨t, h.nox, q⟩
theorem Fun.binds {x qual : Str} {st : Stmt} {f : Addr} {fd : FuncData} {ps : List Str} (F : Fun K x qual st f fd)
    (h : ∀ (kV doc pm : Value) (an : Option Addr) (cdv ct : Value) (us : List Value), us.length = ps.length → bindArgs (PySem.W.fnOf x qual (defArgs st) (defBody st) (defScope st) .none kV doc pm an cdv ct) ⟨us, []⟩ = pure (ps.zip us)) : Binds K fd ps [] := by
  obtain ⟨oc, od, kV, doc, pm, an, cdv, ct, osl, rfl, lk, hcd⟩ := F.ex
  exact .all (h kV doc pm an cdv ct)
theorem fun_mk {x qual : Str} {st : Stmt} {f : Addr} {oc : Value} {od an : Option Addr} {osl : Array (Option Value)} {kV doc pm cdv ct : Value} (l : K.lookup f = some ⟨oc, od, .func (PySem.W.fnOf x qual (defArgs st) (defBody st) (defScope st) .none kV doc pm an cdv ct), osl⟩)
    (c : PySem.W.codeIn K cdv qual = true) (k : PySem.W.keepIn K (.ref f) = true) : Fun K x qual st f (PySem.W.fnOf x qual (defArgs st) (defBody st) (defScope st) .none kV doc pm an cdv ct) := ⟨⟨oc, od, kV, doc, pm, an, cdv, ct, osl, rfl, l, c⟩, k⟩
end
section
variable {X : Cx}
theorem call_lenD : CallR X (.builtin "len") (fun xs H Q => ∃ a kvs, xs = [V.ref a] ∧ H a = some (.dK kvs) ∧ Q (.int kvs.length) H) := by
  intro pins s σ H xs us Q I r h
  obtain ⟨a, kvs, rfl, ha, q⟩ := h
  obtain ⟨u, rfl, ru⟩ := vals1 r
  cases ru
  exact d_len I (.inl ha) fun t s' I' => ⟨.int kvs.length, H, I', ⟨t, rfl⟩, q⟩
end

def Same (H H' : Hp) : Prop := ∀ b o, H b = some o → H' b = some o
theorem Same.refl (H : Hp) : Same H H := fun _ _ h => h
theorem Same.trans {H H1 H2 : Hp} (a : Same H H1) (b : Same H1 H2) : Same H H2 := fun c o h => b c o (a c o h)
theorem Same.free {H H' : Hp} (e : Same H H') {l : Addr} (h : H' l = Option.none) : H l = Option.none := by
  cases q : H l with
  | none => rfl
  | some o =>
    rw [e l o q] at h
    cases h
theorem Same.seq {K : PySem.W.Frag} {H H' : Hp} {a : Addr} {xs : List V} (e : Same H H') (h : SqL K H a xs) : SqL K H' a xs := by
  rcases h with (h | ⟨o, h⟩) | h
  · exact .inl (.inl (e _ _ h))
  · exact .inl (.inr ⟨o, e _ _ h⟩)
  · exact .inr h

section
variable {κ : Type} [DecidableEq κ]
end
end L2
namespace L2
open PySem PySem.Spec PyProof.Rows

def closL : List (Str × NameKind) → List (Str × Addr) → List (Str × Addr) → List (Str × Addr)
  | [], _, cs => cs
  | (n, k) :: r, cells, cs => closL r cells (if k == .free then (match cells.lookup n with | some a => (n, a) :: cs | none => cs) else cs)
theorem closureFor_L {scope : Scope} {env : Env} (h : ∀ y ∈ scope.names, y.2 = .free → (env.cells.lookup y.1).isSome = true) : closureFor scope env = pure (closL scope.names env.cells []) := by
  have key : ∀ (l : List (Str × NameKind)) (cs : List (Str × Addr)), (∀ y ∈ l, y.2 = .free → (env.cells.lookup y.1).isSome = true) →
      (forIn l cs (fun (x : Str × NameKind) (cs : List (Str × Addr)) => (if (x.2 == NameKind.free) = true then (do let a ← cellOf env x.1; pure (ForInStep.yield ((x.1, a) :: cs))) else (pure (ForInStep.yield cs) : Sem _))) : Sem (List (Str × Addr))) = pure (closL l env.cells cs) := by
    intro l
    induction l with
    | nil => intro cs _; rfl
    | cons y r ih =>
      intro cs hy
      obtain ⟨n, k⟩ := y
      rw [List.forIn_cons]
      by_cases hk : k = .free
      · subst hk
        have hs := hy (n, .free) List.mem_cons_self rfl
        cases e : env.cells.lookup n with
        | none => rw [e] at hs; cases hs
        | some a =>
          have := ih ((n, a) :: cs) (fun z hz => hy z (List.mem_cons_of_mem _ hz))
          simp only [closL, beq_self_eq_true, if_true, e, cellOf, pure_bind]
          exact this
      · have hb : (k == NameKind.free) = false := by simpa using hk
        have := ih cs (fun z hz => hy z (List.mem_cons_of_mem _ hz))
        simp only [closL, hb, Bool.false_eq_true, if_false, pure_bind]
        exact this
  have := key scope.names [] h
  unfold closureFor
  simpa using this
theorem closL_sub : ∀ {l : List (Str × NameKind)} {cells cs : List (Str × Addr)} {x : Str} {c : Addr}, (∀ x c, cs.lookup x = some c → cells.lookup x = some c) → (closL l cells cs).lookup x = some c → cells.lookup x = some c
  | [], _, _, _, _, h, e => h _ _ e
  | (n, k) :: r, cells, cs, x, c, h, e => by
    refine closL_sub (l := r) (fun y d hy => ?_) e
    split at hy
    · split at hy
      · rename_i a ha
        by_cases hyn : y = n
        · subst hyn
          rw [List.lookup_cons_self] at hy
          rw [← hy]; exact ha
        · rw [List.lookup_cons] at hy
          have : (y == n) = false := by simpa using hyn
          rw [this] at hy
          exact h _ _ hy
      · exact h _ _ hy
    · exact h _ _ hy
theorem closL_keep : ∀ {l : List (Str × NameKind)} {cells cs : List (Str × Addr)} {x : Str}, (cs.lookup x).isSome = true → ((closL l cells cs).lookup x).isSome = true
  | [], _, _, _, h => h
  | (n, k) :: r, cells, cs, x, h => by
    refine closL_keep (l := r) ?_
    split
    · split
      · rw [List.lookup_cons]
        split
        · rfl
        · exact h
      · exact h
    · exact h
theorem closL_has : ∀ {l : List (Str × NameKind)} {cells cs : List (Str × Addr)} {x : Str}, (x, NameKind.free) ∈ l → (cells.lookup x).isSome = true → ((closL l cells cs).lookup x).isSome = true
  | [], _, _, _, h, _ => by cases h
  | (n, k) :: r, cells, cs, x, h, hs => by
    rcases List.mem_cons.mp h with e | h
    · cases e
      refine closL_keep (l := r) ?_
      simp only [beq_self_eq_true, if_true]
      cases e : cells.lookup n with
      | none => rw [e] at hs; cases hs
      | some a => simp only [List.lookup_cons_self]; rfl
    · exact closL_has (l := r) h hs
theorem mem_lookup {x : Str} {k : NameKind} : ∀ {l : List (Str × NameKind)}, l.lookup x = some k → (x, k) ∈ l := fun h => PySem.mem_of_lookup h

inductive Caps (X : Cx) (scope : Scope) : List Str → List Nat → Prop where
  | nil : Caps X scope [] []
  | cons {y : Str} {i : Nat} {ys : List Str} {is : List Nat} (h1 : X.N[i]? = some y) (h2 : X.env.kindOf y = some .cell ∨ X.env.kindOf y = some .free) (h3 : scope.names.lookup y = some .free) (h : Caps X scope ys is) : Caps X scope (y :: ys) (i :: is)

structure CompScope (scope : Scope) (x : Str) (ys : List Str) : Prop where
  kind : scope.kind = .function
  nocell : ∀ y ∈ scope.names, y.2 ≠ .cell
  names : ∀ y ∈ scope.names, y.2 = .local → scope.names.lookup y.1 = some .local
  own : scope.names.lookup x = some .local
  all : ∀ y ∈ scope.names, y.2 = .free → y.1 ∈ ys
  nd : (x :: ys).Nodup

def cxComp (X : Cx) (scope : Scope) (C : Addr) (N : List Str) (s : Shared) (H : Hp) (fp : List Addr) : Cx :=
  { X with N := N, s₀ := s, H₀ := H, env := compEnvC scope (closL scope.names X.env.cells []) C X.env, outer := X.stack, ex := fp, fn := fun _ => false, pn := [], xe := fun _ _ => False }

def capSt (σ : St) (is : List Nat) : St := is.map fun i => (σ[i]?).getD none

theorem lookup_map_fst {f : Str × NameKind → Str × NameKind} (hf : ∀ p, (f p).1 = p.1) {x : Str} : ∀ (l : List (Str × NameKind)), (l.map f).lookup x = (l.lookup x).map fun k => (f (x, k)).2
  | [] => rfl
  | (n, k) :: r => by
    have ih := lookup_map_fst hf (x := x) r
    have e : f (n, k) = (n, (f (n, k)).2) := Prod.ext (hf (n, k)) rfl
    rw [List.map_cons, e, List.lookup_cons, List.lookup_cons]
    cases hx : x == n with
    | true =>
      have e' : x = n := by simpa using hx
      subst e'; rfl
    | false => exact ih
theorem relabel_at (scope : Scope) (env : Env) (x : Str) : (relabel scope env).names.lookup x = (scope.names.lookup x).map fun k => if (k == NameKind.free && env.scope.kind == .function && env.kindOf x == some .cell) then NameKind.cell else k := by
  have hf : ∀ p : Str × NameKind, ((fun (n, k) => if (k == NameKind.free && env.scope.kind == .function && env.kindOf n == some .cell) then (n, NameKind.cell) else (n, k)) p : Str × NameKind).1 = p.1 := by
    intro p
    obtain ⟨n, k⟩ := p
    show (if _ then (n, NameKind.cell) else (n, k)).1 = n
    split <;> rfl
  have := lookup_map_fst hf (x := x) scope.names
  show List.lookup x (List.map _ scope.names) = _
  rw [this]
  congr 1
  funext k
  show (if _ then (x, NameKind.cell) else (x, k)).2 = _
  split <;> rfl
theorem relabel_lookup {scope : Scope} {env : Env} {x : Str} {k : NameKind} (nc : ∀ y ∈ scope.names, y.2 ≠ .cell) (h : (relabel scope env).names.lookup x = some k) (hk : k = .cell ∨ k = .free) : (x, NameKind.free) ∈ scope.names := by
  rw [relabel_at] at h
  cases q : scope.names.lookup x with
  | none => rw [q] at h; cases h
  | some k' =>
    have hm := mem_lookup q
    rw [q] at h
    have h : (if (k' == NameKind.free && env.scope.kind == .function && env.kindOf x == some .cell) then NameKind.cell else k') = k := Option.some.inj h
    by_cases hc : k' = .free
    · subst hc; exact hm
    · have hb : (k' == NameKind.free) = false := by simpa using hc
      rw [hb] at h
      have h : k' = k := h
      subst h
      rcases hk with z | z
      · exact absurd z (nc _ hm)
      · exact absurd z hc
theorem relabel_free {scope : Scope} {env : Env} {x : Str} (h : scope.names.lookup x = some .free) : (relabel scope env).names.lookup x = some .cell ∨ (relabel scope env).names.lookup x = some .free := by
  rw [relabel_at, h]
  show some (if _ then _ else _) = _ ∨ some (if _ then _ else _) = _
  split
  · exact .inl rfl
  · exact .inr rfl
theorem relabel_local {scope : Scope} {env : Env} {x : Str} (h : scope.names.lookup x = some .local) : (relabel scope env).names.lookup x = some .local := by
  rw [relabel_at, h]; rfl

theorem caps_look {X : Cx} {scope : Scope} {ys : List Str} {is : List Nat} {m : Str → Option Value} {h : Heap} {σ : St} (hc : Caps X scope ys is)
    (hl : ∀ (i : Nat) (x : Str) (v : V), X.N[i]? = some x → σ[i]? = some (some v) → Vis X.env.scope x → ∃ u, RelV v u ∧ Look X.env h m x u) (nd : True) :
    ∀ (j : Nat) (y : Str) (v : V), ys[j]? = some y → (capSt σ is)[j]? = some (some v) → ∃ u, RelV v u ∧ scope.names.lookup y = some .free ∧ ∃ c, X.env.cells.lookup y = some c ∧ h.IsCell c (some u) := by
  induction hc with
  | nil => intro j y v e; simp at e
  | @cons z i zs js h1 h2 h3 hr ih =>
    intro j y v e1 e2
    cases j with
    | zero =>
      simp at e1; subst e1
      have e2 : (σ[i]?).getD none = some v := by simpa [capSt] using e2
      have e3 : σ[i]? = some (some v) := by
        cases q : σ[i]? with
        | none => rw [q] at e2; simp at e2
        | some o => rw [q] at e2; simp at e2; rw [e2]
      have hv : Vis X.env.scope z := by
        rcases h2 with q | q
        · exact .inr (.inl q)
        · exact .inr (.inr q)
      obtain ⟨u, r, l⟩ := hl i z v h1 e3 hv
      refine ⟨u, r, h3, ?_⟩
      rcases l with ⟨k, _⟩ | ⟨_, c, e, ic⟩
      · rcases h2 with q | q
        · rw [q] at k; cases k
        · rw [q] at k; cases k
      · exact ⟨c, e, ic⟩
    | succ j =>
      exact ih j y v (by simpa using e1) (by simpa [capSt] using e2)
end L2
namespace L2
open PySem PySem.Spec PyProof.Rows

def CompW (is : List Nat) (tc : TT) (te : TE) (σ : St) (D : Addr) (J : It) (H1 : Hp) (Q : VK) : Prop := ∃ W : Nat → Nat → List V → Hp → Prop, (∃ m, W 0 m [] (upd H1 D (.lst []))) ∧
  ∀ i m ys H2, W i m ys H2 → (J.stop i H2 ∧ Q (.ref D) H2) ∨ (J.go i H2 ∧ ∀ x H3, J.yld i H2 x H3 → tc (some x :: capSt σ is) H3 fun b H4 => if b = true then
    te (some x :: capSt σ is) H4 fun y H5 => H5 D = some (.lst ys) ∧ ys.length < sizeLine ∧ ∃ m', m' < m ∧ W (i + 1) m' (ys ++ [y]) (upd H5 D (.lst (ys ++ [y])))
    else ∃ m', m' < m ∧ W (i + 1) m' ys H4)
def tComp (is : List Nat) (wi : TI) (tc : TT) (te : TE) : TE := fun σ H Q => wi σ H fun J H1 => ∀ D, H1 D = none → CompW is tc te σ D J H1 Q

theorem compTurn_if (elt target iter c : Expr) (scope : Scope) (pos : Pos) (it acc : Value) (env : Env) :
    compTurn (.ListComp elt [⟨target, iter, [c], 0⟩] scope pos) 0 it acc env = (standAt iter.pos >>= fun _ => pyNext it >>= fun r => match r with
      | none => pure (.done .next)
      | some v => letOwnedTupleGo target it v >>= fun _ => assign target env v >>= fun _ => isTrue c env (eval c env) >>= fun ok =>
        (if ok = true then (eval elt env >>= fun x => call (.builtin "list.append") [acc, x] >>= fun _ => pure ()) else pure ()) >>= fun _ =>
          again (.compLoop (.ListComp elt [⟨target, iter, [c], 0⟩] scope pos) 0 it acc env)) := by
  unfold compTurn
  simp only [List.forIn_cons, List.forIn_nil, List.getElem?_cons_zero, List.getElem?_cons_succ, List.getElem?_nil, bind_assoc, pure_bind, bne_self_eq_false, Bool.false_eq_true, if_false, if_true]
  congr 1
  funext _
  congr 1
  funext r
  cases r with
  | none => rfl
  | some v =>
    simp only [bind_assoc, pure_bind, if_true]
    congr 1; funext _
    congr 1; funext _
    congr 1; funext b
    cases b <;> simp

section
variable {prog : Program} {w : World} {A : Around} {R : Result → Shared → Prop} {s : Shared}
theorem codeAny_compLoop_if {elt target iter c : Expr} {scope : Scope} {pos : Pos} {it acc : Value} {env : Env} (I : Nat → Shared → Prop)
    (turn : ∀ n s, I n s → wpAny (model prog w) A (pyNext it) (fun r s₁ => match r with
      | none => R (.ok .next) s₁
      | some v => wpAny (model prog w) A (letOwnedTupleGo target it v) (fun _ s₁ => wpAny (model prog w) A (assign target env v) (fun _ s₂ => wpAny (model prog w) A (isTrue c env (eval c env)) (fun ok s₂ => if ok = true then wpAny (model prog w) A (eval elt env) (fun x s₃ =>
          wpAny (model prog w) A (call (.builtin "list.append") [acc, x]) (fun _ s₄ => ∃ m, m < n ∧ I m s₄) (notedBy (model prog w) A env fun e s' => R (.error e) s') s₃)
          (notedBy (model prog w) A env fun e s' => R (.error e) s') s₂ else ∃ m, m < n ∧ I m s₂) (notedBy (model prog w) A env fun e s' => R (.error e) s') s₂) (notedBy (model prog w) A env fun e s' => R (.error e) s') s₁) (notedBy (model prog w) A env fun e s' => R (.error e) s') s₁) (notedBy (model prog w) A env fun e s' => R (.error e) s') s)
    (n : Nat) (h : I n s) :
    codeAny (model prog w) A (.compLoop (.ListComp elt [⟨target, iter, [c], 0⟩] scope pos) 0 it acc env) R s := by
  refine codeAny_loop rfl I (fun n s hI => ?_) n h
  show wpAny _ _ ((compTurn (.ListComp elt [⟨target, iter, [c], 0⟩] scope pos) 0 it acc env).onRaise (fun x => do noteFrame x env; theTreesLotGoes x)) _ _ s
  refine wpAny_noted ?_
  rw [compTurn_if]
  refine wpAny_bind (wpAny_standAt (wpAny_bind (wpAny_mono (turn n s hI) (fun r s₁ h₁ => ?_) fun _ _ h' => h')))
  cases r with
  | none => exact wpAny_pure h₁
  | some v =>
    refine wpAny_bind (wpAny_mono h₁ (fun _ s₁ h₁ => wpAny_bind (wpAny_mono h₁ (fun _ s₂ h₂ => wpAny_bind (wpAny_mono h₂ (fun ok s₃ h₃ => ?_) fun _ _ h' => h')) fun _ _ h' => h')) fun _ _ h' => h')
    cases ok with
    | true =>
      rw [if_pos rfl] at h₃
      simp only [if_true]
      exact wpAny_bind (wpAny_bind (wpAny_mono h₃ (fun x s₃ h₃ => wpAny_bind (wpAny_mono h₃ (fun _ s₄ h₄ => wpAny_pure (wpAny_pure ⟨rfl, h₄⟩)) fun _ _ h' => h')) fun _ _ h' => h'))
    | false =>
      rw [if_neg Bool.false_ne_true] at h₃
      simp only [Bool.false_eq_true, if_false]
      exact wpAny_bind (wpAny_pure (wpAny_pure ⟨rfl, h₃⟩))
theorem codeAny_compLoop_no {elt target iter : Expr} {scope : Scope} {pos : Pos} {it acc : Value} {env : Env} (I : Nat → Shared → Prop)
    (turn : ∀ n s, I n s → wpAny (model prog w) A (pyNext it) (fun r s₁ => match r with
      | none => R (.ok .next) s₁
      | some v => wpAny (model prog w) A (letOwnedTupleGo target it v) (fun _ s₁ => wpAny (model prog w) A (assign target env v) (fun _ s₂ => wpAny (model prog w) A (eval elt env) (fun x s₃ =>
          wpAny (model prog w) A (call (.builtin "list.append") [acc, x]) (fun _ s₄ => ∃ m, m < n ∧ I m s₄) (notedBy (model prog w) A env fun e s' => R (.error e) s') s₃)
          (notedBy (model prog w) A env fun e s' => R (.error e) s') s₂) (notedBy (model prog w) A env fun e s' => R (.error e) s') s₁) (notedBy (model prog w) A env fun e s' => R (.error e) s') s₁) (notedBy (model prog w) A env fun e s' => R (.error e) s') s)
    (n : Nat) (h : I n s) :
    codeAny (model prog w) A (.compLoop (.ListComp elt [⟨target, iter, [], 0⟩] scope pos) 0 it acc env) R s := by
  refine codeAny_loop rfl I (fun n s hI => ?_) n h
  show wpAny _ _ ((compTurn (.ListComp elt [⟨target, iter, [], 0⟩] scope pos) 0 it acc env).onRaise (fun x => do noteFrame x env; theTreesLotGoes x)) _ _ s
  refine wpAny_noted ?_
  rw [compTurn_list1]
  refine wpAny_bind (wpAny_standAt (wpAny_bind (wpAny_mono (turn n s hI) (fun r s₁ h₁ => ?_) fun _ _ h' => h')))
  cases r with
  | none => exact wpAny_pure h₁
  | some v =>
    exact wpAny_bind (wpAny_mono h₁ (fun _ s₁ h₁ => wpAny_bind (wpAny_mono h₁ (fun _ s₂ h₂ => wpAny_bind (wpAny_bind (wpAny_mono h₂ (fun x s₃ h₃ => wpAny_bind (wpAny_mono h₃
      (fun _ s₄ h₄ => wpAny_pure (wpAny_pure ⟨rfl, h₄⟩)) fun _ _ h' => h')) fun _ _ h' => h'))) fun _ _ h' => h')) fun _ _ h' => h')
end
def PIfs (X : Cx) (ifs : List Expr) (tc : TT) : Prop := match ifs with
  | [] => tc = fun _ H Q => Q true H
  | [c] => PT X c tc
  | _ => False

section
variable {X : Cx}
theorem caps_len {scope : Scope} {ys : List Str} {is : List Nat} (h : Caps X scope ys is) : is.length = ys.length := by
  induction h with
  | nil => rfl
  | cons _ _ _ _ ih => simp [ih]
theorem caps_kind {scope : Scope} {ys : List Str} {is : List Nat} (h : Caps X scope ys is) {y : Str} (hy : y ∈ ys) : X.env.kindOf y = some .cell ∨ X.env.kindOf y = some .free := by
  induction h with
  | nil => cases hy
  | cons _ h2 _ _ ih =>
    rcases List.mem_cons.mp hy with e | e
    · rw [e]; exact h2
    · exact ih e
theorem comp_core {elt iter : Expr} {ifs : List Expr} {x : Str} {px pos : Pos} {scope : Scope} {ys : List Str} {is : List Nat} {tc : TT} {te : TE} {pins : List (Addr × Obj)} {σ : St} {H2 : Hp} {s2 : Shared} {it : Addr} {fp : List Addr} {tn : Nat → Heap → Prop} {J : It} {E : Value → Shared → Prop} {Q : VK} {RR : Value → Addr → Result → Shared → Prop}
    (hc : X.calm = true) (S : CompScope scope x ys) (hcap : Caps X scope ys is)
    (hif : ∀ C s H fp, PIfs (cxComp X scope C (x :: ys) s H fp) ifs tc) (he : ∀ C s H fp, PE (cxComp X scope C (x :: ys) s H fp) elt te)
    (I2 : Inv X pins σ H2 s2) (T : Turn X.prog X.w X.K (.Name x px) J fp it tn) (st2 : tn 0 s2.heap) (f2 : ∀ b ∈ fp, FpOk X pins H2 b)
    (hW : ∀ D, H2 D = none → ∃ W : Nat → Nat → List V → Hp → Prop, (∃ m, W 0 m [] (upd H2 D (.lst []))) ∧
      ∀ i m ys H2, W i m ys H2 → (J.stop i H2 ∧ Q (.ref D) H2) ∨ (J.go i H2 ∧ ∀ x H3, J.yld i H2 x H3 → tc (some x :: capSt σ is) H3 fun b H4 => if b = true then
        te (some x :: capSt σ is) H4 fun y H5 => H5 D = some (.lst ys) ∧ ys.length < sizeLine ∧ ∃ m', m' < m ∧ W (i + 1) m' (ys ++ [y]) (upd H5 D (.lst (ys ++ [y])))
        else ∃ m', m' < m ∧ W (i + 1) m' ys H4))
    (hRR : ∀ D C H' s', (X.s₀.heap.objs.size ≤ C ∧ ∀ p ∈ X.pn ++ pins, p.1 ≠ C) → (∃ m, s'.heap.Ns C m) → C ≠ X.env.locals → H' C = none → Inv X pins σ H' s' → (∀ h', Heap.SameBut C s'.heap h' → Inv X pins σ H' { s' with heap := h' }) → Q (.ref D) H' → RR (.ref D) C (.ok .next) s') :
    wpAny (model X.prog X.w) X.A (newList []) (fun acc s₃ => wpAny (model X.prog X.w) X.A (newFunctionEnv scope X.env.globals (closL scope.names X.env.cells []) [] X.env.qual none .none (some X.env)) (fun cenv s₄ =>
      codeAny (model X.prog X.w) X.A (.compStart (.ListComp elt [⟨.Name x px, iter, ifs, 0⟩] scope pos) 0 (.ref it) acc { cenv with scope := relabel scope X.env }) (RR acc cenv.locals) s₄) E s₃) E s2 := by
  have hf2 : H2 s2.heap.objs.size = none := I2.fresh
  refine wpAny_newObj_type (wpAny_newFunctionEnv S.nocell (by intro y hy; simp at hy) (fun h₁ hns₁ hsb₁ => ?_) S.kind)
  dsimp only at hns₁ hsb₁ ⊢
  -- the state with the new list
  have I3 : Inv X pins σ (upd H2 s2.heap.objs.size (.lst [])) { s2 with heap := s2.heap.push { cls := .type "list", data := .seq ([] : List Value).toArray } } := I2.lnew (t' := s2.toks) (ys := []) .nil (Nat.zero_le _)
  obtain ⟨W, ⟨m0, w0⟩, turn⟩ := hW _ hf2
  generalize hD : s2.heap.objs.size = D at I3 w0 turn hf2 ⊢
  generalize hs3 : ({ s2 with heap := s2.heap.push { cls := .type "list", data := .seq ([] : List Value).toArray } } : Shared) = s3 at I3
  have hp3 : s2.heap.push { cls := .type "list", dict := none, data := .seq ([] : List Value).toArray } = s3.heap := by rw [← hs3]
  rw [hp3] at hns₁ hsb₁ ⊢
  have tk3 : s2.toks = s3.toks := by rw [← hs3]
  generalize hH3 : upd H2 D (.lst []) = H3 at I3 w0
  generalize hC : s3.heap.objs.size = C at hns₁ hsb₁ ⊢
  have keep2 : ∀ b o, s2.heap.get? b = some o → s3.heap.get? b = some o := fun b o e => by rw [← hp3]; exact Heap.get?_push_of_some _ e
  have keep3 : ∀ b o, s3.heap.get? b = some o → h₁.get? b = some o := fun b o e => hsb₁.extBut b o (by rw [← hC]; exact Nat.ne_of_lt (Heap.lt_size e)) (Heap.get?_push_of_some _ e)
  have st3 : tn 0 s3.heap := T.keep _ _ _ st2 fun b _ o e => keep2 b o e
  have st4 : tn 0 h₁ := T.keep _ _ _ st3 fun b _ o e => keep3 b o e
  have fp3 : ∀ b ∈ fp, H3 b = none ∧ b < C := fun b hb => by
    obtain ⟨o, e, _⟩ := T.obj _ _ st2 b hb
    refine ⟨?_, by rw [← hC]; exact Heap.lt_size (keep2 b o e)⟩
    rw [← hH3, upd_ne (by rw [← hD]; exact Nat.ne_of_lt (Heap.lt_size e))]
    exact (f2 b hb).1
  have hcells : ∀ {z : Str} {c : Addr}, (closL scope.names X.env.cells []).lookup z = some c → X.env.cells.lookup z = some c := fun h => closL_sub (fun _ _ q => by cases q) h
  have hX : (cxComp X scope C (x :: ys) s3 H3 fp).Ok := by
    refine ⟨I3.ok.mod, S.kind, I3.ok.glob, I3.ok.blt, Nat.le_of_eq hC, fun y z c h1 h2 => I3.ok.inj y z c (hcells h1) (hcells h2), fun y hy => ?_, fun y c h _ => absurd (show false = true from h) Bool.false_ne_true, I3.ok.hd, I3.ok.frames, .inl rfl, fun b hb => ⟨Nat.ne_of_lt (fp3 b hb).2, fun y c h => (f2 b hb).2.2.2.2.1 y c (hcells h)⟩, fun b o e => I3.bs b o e, Nat.le_trans I3.ok.bsz I3.sz, fun b o e hb => ?_, fun b hb z => ?_, I3.stack, I3.stkFree⟩
    · have hy : (relabel scope X.env).names.lookup y = some .cell ∨ (relabel scope X.env).names.lookup y = some .free := hy
      have hm : (y, NameKind.free) ∈ scope.names := by
        rcases hy with q | q
        · exact relabel_lookup S.nocell q (.inl rfl)
        · exact relabel_lookup S.nocell q (.inr rfl)
      have hs : ∃ c, X.env.cells.lookup y = some c := by
        by_cases hk : X.env.kindOf y = some .cell ∨ X.env.kindOf y = some .free
        · exact I3.ok.has y hk
        · exact absurd (caps_kind hcap (S.all _ hm rfl)) hk
      exact Option.isSome_iff_exists.mp (closL_has hm (Option.isSome_iff_exists.mpr hs))
    · rcases (f2 b hb).2.2.2.1 with z | z
      · exact I3.ok.noex b o e z
      · exact absurd (Nat.lt_of_lt_of_le (Heap.lt_size e) (Nat.le_trans I3.ok.bsz z)) (Nat.lt_irrefl _)
    · rcases List.mem_cons.mp (I3.stkSub b z) with q | q
      · exact (f2 b hb).2.1 q
      · exact (f2 b hb).2.2.1 q
  -- the block's state at its start
  have I4 : Inv (cxComp X scope C (x :: ys) s3 H3 fp) [] (none :: capSt σ is) H3 { s2 with heap := h₁, toks := s2.toks + ([] : List (Str × Value)).length } := by
    obtain ⟨m3, hm3, hl3⟩ := id I3.loc
    refine ⟨hX, ?_, ?_, Un.kept keep3, ⟨_, hns₁, fun i y v e1 e2 e3 => ?_⟩, fun y c e => ?_, ?_, fun y c e => I3.freeC y c (hcells e), fun p hp => absurd (show p ∈ ([] : List (Addr × Obj)) from hp) (by simp), I3.hok.kept keep3, ?_⟩
    · show s2.os = s3.os
      rw [← hs3]
    · have := I2.bare; exact this
    · cases i with
      | zero => simp at e2
      | succ j =>
        obtain ⟨u, r, hfr, c, ec, ic⟩ := caps_look hcap hl3 trivial j y v (by have e1' : (x :: ys)[j + 1]? = some y := e1; simpa using e1') (by simpa using e2)
        have hk := relabel_free (env := X.env) hfr
        obtain ⟨c', ec'⟩ := Option.isSome_iff_exists.mp (closL_has (cs := []) (mem_lookup hfr) (by rw [ec]; rfl) (cells := X.env.cells))
        have : c' = c := by have := hcells ec'; rw [ec] at this; exact (Option.some.inj this).symm
        subst this
        obtain ⟨o, ho, hd⟩ := ic
        exact ⟨u, r, .inr ⟨hk, c', ec', o, keep3 _ _ ho, hd⟩⟩
    · obtain ⟨v, o, ho, hd⟩ := I3.cell y c (hcells e)
      exact ⟨v, o, keep3 _ _ ho, hd⟩
    · have := I3.hok.fresh (a := C) (Nat.le_of_eq hC)
      exact this
    · have := caps_len hcap
      show (none :: capSt σ is).length = (x :: ys).length
      simp [capSt, this]
  have lenσ : ∀ v : Option V, (v :: capSt σ is).set 0 = fun w => w :: capSt σ is := fun v => rfl
  have hown : (relabel scope X.env).names.lookup x = some .local := relabel_local S.own
  -- the loop
  have loop : codeAny (model X.prog X.w) X.A (.compLoop (.ListComp elt [⟨.Name x px, iter, ifs, 0⟩] scope pos) 0 (.ref it) (.ref D) (compEnvC scope (closL scope.names X.env.cells []) C X.env)) (RR (.ref D) C)
      { s2 with heap := h₁, toks := s2.toks + ([] : List (Str × Value)).length } := by
    have fin : ∀ {H' : Hp} {v : Option V} {s' : Shared}, Inv (cxComp X scope C (x :: ys) s3 H3 fp) [] (v :: capSt σ is) H' s' → Q (.ref D) H' → RR (.ref D) C (.ok .next) s' := fun {H' v s'} J q => by
      obtain ⟨m', hm', _⟩ := J.loc
      have hCL : C ≠ X.env.locals := Ne.symm (by rw [← hC]; exact Nat.ne_of_lt I3.lt)
      have back : ∀ h', Heap.SameBut C s'.heap h' → Inv X pins σ H' { s' with heap := h' } := fun h' hs' => by
        have os' : s'.os = s3.os := J.os
        refine I3.call' (s' := { s' with heap := h' }) (ch := fp) os' ⟨fun b o e n hb hx => ?_, fun b o e n hb hx => ?_, fun b o e n hx => J.base.free b o e n hx, fun b o e hx => ?_, J.base.tups, J.base.frzs, J.base.tbls⟩ (fun b o e => ?_) J.bare fun b hb => ?_
        · exact hs'.extBut b o (by rw [← hC]; exact Nat.ne_of_lt (Heap.lt_size e)) (J.base.keep b o e n hb hx)
        · obtain ⟨sl, e1⟩ := J.base.slot b o e n hb hx
          exact ⟨sl, hs'.extBut b _ (by rw [← hC]; exact Nat.ne_of_lt (Heap.lt_size e)) e1⟩
        · obtain ⟨o', e1⟩ := J.base.there b o e hx
          exact ⟨o', hs'.extBut b _ (by rw [← hC]; exact Nat.ne_of_lt (Heap.lt_size e)) e1⟩
        · refine (J.hok b o e).stay (fun c w' hc q => (hs'.2 c ?_).trans q) (fun _ q => q) fun _ _ q => q
          have fC : H' C = none := J.free
          rintro rfl
          rcases hc with rfl | hc
          · rw [fC] at e; cases e
          · rw [fC] at hc; cases hc
        · obtain ⟨_, a1, _, a2, a3, a4⟩ := f2 b hb
          exact ⟨a2, a1, a3, a4⟩
      refine hRR D C H' s' ⟨by rw [← hC]; exact I3.sz, fun p hp => by rw [← hC]; exact Nat.ne_of_lt (Heap.lt_size (I3.pin p hp).1)⟩ ⟨m', hm'⟩ hCL J.free ?_ back q
      have := back s'.heap (.refl ..)
      exact this
    have stat : ∀ {H' : Hp}, (∀ b ∈ fp, H' b = none) → ∀ b ∈ fp, FpOk (cxComp X scope C (x :: ys) s3 H3 fp) [] H' b := fun hn b hb => by
      obtain ⟨_, a1, a5, a2, a3, a4⟩ := f2 b hb
      refine ⟨hn b hb, Nat.ne_of_lt (fp3 b hb).2, fun z => ?_, .inl hb, fun y c e => a3 y c (hcells e), fun p hp => absurd (show p ∈ ([] : List (Addr × Obj)) from hp) (by simp)⟩
      rcases List.mem_cons.mp (I3.stkSub b z) with q | q
      · exact a1 q
      · exact a5 q
    have turnAt : ∀ n s, (∃ i v ys' H', Inv (cxComp X scope C (x :: ys) s3 H3 fp) [] (v :: capSt σ is) H' s ∧ tn i s.heap ∧ (∀ b ∈ fp, H' b = none) ∧ W i n ys' H') →
        wpAny (model X.prog X.w) X.A (pyNext (.ref it)) (fun r s₁ => match r with
          | none => RR (.ref D) C (.ok .next) s₁
          | some u => wpAny (model X.prog X.w) X.A (letOwnedTupleGo (.Name x px) (.ref it) u) (fun _ s₁ => wpAny (model X.prog X.w) X.A (assign (.Name x px) (compEnvC scope (closL scope.names X.env.cells []) C X.env) u) (fun _ s₂ =>
            ∃ (xx : V) (i : Nat) (ys' : List V) (H3' H6 : Hp) (pl : List (Addr × Obj)), Inv (cxComp X scope C (x :: ys) s3 H3 fp) ([] ++ pl) (some xx :: capSt σ is) H6 s₂ ∧
              (∀ s7 v7 H7, Inv (cxComp X scope C (x :: ys) s3 H3 fp) ([] ++ pl) (v7 :: capSt σ is) H7 s7 → Inv (cxComp X scope C (x :: ys) s3 H3 fp) [] (v7 :: capSt σ is) H7 s7 ∧ tn (i + 1) s7.heap ∧ ∀ b ∈ fp, H7 b = none) ∧
              (tc (some xx :: capSt σ is) H6 fun b H4 => if b = true then te (some xx :: capSt σ is) H4 fun y H5 => H5 D = some (.lst ys') ∧ ys'.length < sizeLine ∧ ∃ m', m' < n ∧ W (i + 1) m' (ys' ++ [y]) (upd H5 D (.lst (ys' ++ [y])))
                else ∃ m', m' < n ∧ W (i + 1) m' ys' H4)) (fun _ _ => False) s₁) (fun _ _ => False) s₁) (fun _ _ => False) s := by
      rintro n s ⟨i, v, ys', H', J, st, fr, w'⟩
      rcases turn i n ys' H' w' with ⟨stop, qn⟩ | ⟨go, step⟩
      · refine thn (T.done (cxComp X scope C (x :: ys) s3 H3 fp) rfl rfl rfl hc i [] s _ H' (fun _ _ => False) J (stat fr) st stop) fun r s4 ⟨hr, J4⟩ => ?_
        subst hr
        exact fin J4 qn
      · refine thn (T.item (cxComp X scope C (x :: ys) s3 H3 fp) rfl rfl rfl hc i [] s _ H' (fun _ _ => False) J (stat fr) st go) fun r s4 ⟨u, hr, h4⟩ => ?_
        subst hr
        refine thn h4 fun _ s5 ⟨xx, H5, J5, r5, y5, st5, fr5⟩ => ?_
        have J5' := J5.pinned (stat fr5) (T.obj _ _ st5)
        refine wpAny_assign_Name (store_ok (i := 0) J5' S.nd rfl (.inl hown) r5 (fun s6 J6 => ?_) (.inr hown))
        refine ⟨xx, i, ys', H5, H5, pinsAt fp s5.heap, J6, fun s7 v7 H7 J7 => ⟨J7.unpinned, T.keep _ _ _ st5 fun b hb o e => (J7.pin (b, o) (List.mem_append_right _ (List.mem_append_right _ (mem_pinsAt hb e)))).1, fun b hb => ?_⟩, step xx H5 y5⟩
        obtain ⟨o, e, d⟩ := T.obj _ _ st5 b hb
        exact (J7.pin (b, o) (List.mem_append_right _ (List.mem_append_right _ (mem_pinsAt hb e)))).2.1
    have start0 : ∃ i v ys' H', Inv (cxComp X scope C (x :: ys) s3 H3 fp) [] (v :: capSt σ is) H' { s2 with heap := h₁, toks := s2.toks + ([] : List (Str × Value)).length } ∧ tn i h₁ ∧ (∀ b ∈ fp, H' b = none) ∧ W i m0 ys' H' :=
      ⟨0, none, [], H3, I4, st4, fun b hb => (fp3 b hb).1, w0⟩
    have emit : ∀ (n : Nat) (xx : V) (i : Nat) (ys' : List V) (H4 : Hp) (pl : List (Addr × Obj)) (s₂ : Shared), Inv (cxComp X scope C (x :: ys) s3 H3 fp) ([] ++ pl) (some xx :: capSt σ is) H4 s₂ →
        (∀ s7 v7 H7, Inv (cxComp X scope C (x :: ys) s3 H3 fp) ([] ++ pl) (v7 :: capSt σ is) H7 s7 → Inv (cxComp X scope C (x :: ys) s3 H3 fp) [] (v7 :: capSt σ is) H7 s7 ∧ tn (i + 1) s7.heap ∧ ∀ b ∈ fp, H7 b = none) →
        (te (some xx :: capSt σ is) H4 fun y H5 => H5 D = some (.lst ys') ∧ ys'.length < sizeLine ∧ ∃ m', m' < n ∧ W (i + 1) m' (ys' ++ [y]) (upd H5 D (.lst (ys' ++ [y])))) →
        wpAny (model X.prog X.w) X.A (eval elt (compEnvC scope (closL scope.names X.env.cells []) C X.env)) (fun y s₃ => wpAny (model X.prog X.w) X.A (call (.builtin "list.append") [.ref D, y]) (fun _ s₄ =>
          ∃ m, m < n ∧ ∃ i v ys' H', Inv (cxComp X scope C (x :: ys) s3 H3 fp) [] (v :: capSt σ is) H' s₄ ∧ tn i s₄.heap ∧ (∀ b ∈ fp, H' b = none) ∧ W i m ys' H') (fun _ _ => False) s₃) (fun _ _ => False) s₂ := by
      intro n xx i ys' H4 pl s₂ J2 back q
      refine thn (he C s3 H3 fp ([] ++ pl) s₂ _ H4 _ J2 q) fun y s₃ ⟨yv, H5, J3, r3, q1, q2, q3⟩ => ?_
      refine thn (mt_append (X := cxComp X scope C (x :: ys) s3 H3 fp) ([] ++ pl) s₃ _ H5 (.ref D) [yv] (.ref D) [y] (fun v H7 => v = .non ∧ H7 = upd H5 D (.lst (ys' ++ [yv]))) J3 rfl (.cons r3 .nil) ⟨D, ys', yv, rfl, rfl, q1, q2, rfl, rfl⟩) fun _ s₄ ⟨_, H7, J4, _, _, e7⟩ => ?_
      subst e7
      obtain ⟨m', hm', w'⟩ := q3
      obtain ⟨b1, b2, b3⟩ := back s₄ _ _ J4
      exact ⟨m', hm', i + 1, some xx, ys' ++ [yv], _, b1, b2, b3, w'⟩
    have ex0 : ∀ {α : Type} {t : Sem α} {Q' : α → Shared → Prop} {E' : Value → Shared → Prop} {s : Shared}, wpAny (model X.prog X.w) X.A t Q' (fun _ _ => False) s → wpAny (model X.prog X.w) X.A t Q' E' s := fun h => wpAny_mono h (fun _ _ q => q) fun _ _ q => q.elim
    cases ifs with
    | nil =>
      have htc : tc = fun _ H Q => Q true H := hif C s3 H3 fp
      subst htc
      refine codeAny_compLoop_no (fun n s => ∃ i v ys' H', Inv (cxComp X scope C (x :: ys) s3 H3 fp) [] (v :: capSt σ is) H' s ∧ tn i s.heap ∧ (∀ b ∈ fp, H' b = none) ∧ W i n ys' H') (fun n s hI => ?_) m0 start0
      refine wpAny_mono (turnAt n s hI) (fun r s₁ h₁ => ?_) fun _ _ q => q.elim
      cases r with
      | none => exact h₁
      | some u =>
        refine wpAny_mono h₁ (fun _ s₁ h₁ => wpAny_mono h₁ (fun _ s₂ h₂ => ?_) fun _ _ q => q.elim) fun _ _ q => q.elim
        obtain ⟨xx, i, ys', _, H6, pl, J2, back, q⟩ := h₂
        dsimp only at q
        rw [if_pos rfl] at q
        exact wpAny_mono (emit n xx i ys' H6 pl s₂ J2 back q) (fun y s₃ h₃ => ex0 h₃) fun _ _ q => q.elim
    | cons c r0 =>
      cases r0 with
      | cons _ _ => exact (hif C s3 H3 fp).elim
      | nil =>
        have hpt : PT (cxComp X scope C (x :: ys) s3 H3 fp) c tc := hif C s3 H3 fp
        refine codeAny_compLoop_if (fun n s => ∃ i v ys' H', Inv (cxComp X scope C (x :: ys) s3 H3 fp) [] (v :: capSt σ is) H' s ∧ tn i s.heap ∧ (∀ b ∈ fp, H' b = none) ∧ W i n ys' H') (fun n s hI => ?_) m0 start0
        refine wpAny_mono (turnAt n s hI) (fun r s₁ h₁ => ?_) fun _ _ q => q.elim
        cases r with
        | none => exact h₁
        | some u =>
          refine wpAny_mono h₁ (fun _ s₁ h₁ => wpAny_mono h₁ (fun _ s₂ h₂ => ?_) fun _ _ q => q.elim) fun _ _ q => q.elim
          obtain ⟨xx, i, ys', _, H6, pl, J2, back, q⟩ := h₂
          refine wpAny_mono (hpt ([] ++ pl) s₂ _ H6 _ J2 q) (fun b s₃ h₃ => ?_) fun _ _ q => q.elim
          obtain ⟨H4, J4, q4⟩ := h₃
          cases b with
          | true =>
            rw [if_pos rfl] at q4 ⊢
            exact wpAny_mono (emit n xx i ys' H4 pl s₃ J4 back q4) (fun y s₃ h₃ => ex0 h₃) fun _ _ q => q.elim
          | false =>
            rw [if_neg Bool.false_ne_true] at q4 ⊢
            obtain ⟨m', hm', w'⟩ := q4
            obtain ⟨b1, b2, b3⟩ := back s₃ _ _ J4
            exact ⟨m', hm', i + 1, some xx, ys', _, b1, b2, b3, w'⟩
  exact codeAny_compStart_list loop (T.self X.A 0 _ _ _ st4 loop)
end
end L2
namespace L2
open PySem PySem.Spec PyProof.Rows
section
variable {X : Cx}
theorem clos_ok {scope : Scope} {x : Str} {ys : List Str} {is : List Nat} (ok : X.Ok) (S : CompScope scope x ys) (hcap : Caps X scope ys is) : closureFor scope X.env = pure (closL scope.names X.env.cells []) :=
  closureFor_L fun y hy hk => by
    obtain ⟨c, e⟩ := ok.has y.1 (caps_kind hcap (S.all y hy hk))
    rw [e]; rfl
theorem ps_setComp {elt iter : Expr} {ifs : List Expr} {x y : Str} {px py pos spos : Pos} {scope : Scope} {ys : List Str} {is : List Nat} {wi : TI} {tc : TT} {te : TE} {j : Nat}
    (hN : X.N.Nodup) (hj : X.N[j]? = some y) (hy : Loc X.env.scope y)
    (hc : X.calm = true) (S : CompScope scope x ys) (hcap : Caps X scope ys is) (hi : PI X (.Name x px) iter wi)
    (hif : ∀ C s H fp, PIfs (cxComp X scope C (x :: ys) s H fp) ifs tc) (he : ∀ C s H fp, PE (cxComp X scope C (x :: ys) s H fp) elt te)
    (hsw : swapsWith (.ListComp elt [⟨.Name x px, iter, ifs, 0⟩] scope pos) (some (.Name y py)) spos.line X.env = pure true := by rfl)
    (hf : X.fn y = true ∨ X.env.scope.names.lookup y = some .local := by first | exact .inl rfl | exact .inr rfl | assumption)
    (hs : ∀ x, foldedSetIterable iter X.env x = pure x := by intro _; rfl) : PS X (.Assign [.Name y py] (.ListComp elt [⟨.Name x px, iter, ifs, 0⟩] scope pos) spos) (tAsg (tComp is wi tc te) (gName j)) := by
  intro pins s σ H D I h
  rw [exec_Assign_Name_used _ _ _ _ hsw]
  refine wpAny_bind (wpAny_standAt (wpAny_bind ?_))
  show wpAny _ X.A (do let _ ← comprehension (.ListComp elt [⟨.Name x px, iter, ifs, 0⟩] scope pos) scope X.env _ (newList []) false (eval iter X.env) (some (assign (.Name y py) X.env))) _ _ s
  refine wpAny_bind (wpAny_mono (wpAny_comprehension_free (use := some (assign (.Name y py) X.env)) (Q := fun _ s' => SP X pins D .next s') rfl hs (clos_ok I.ok S hcap) S.kind S.names
    (thn (hi pins s σ H _ I h) fun v s1 h1 => thn h1 fun itv s2 h2 => ?_)) (fun _ s' hq => wpAny_pure (wpAny_pure hq)) fun _ _ e => e)
  obtain ⟨it, fp, tn, J, H2, rfl, I2, T, st2, f2, hW⟩ := h2
  refine comp_core (Q := fun x H1 => gName j x σ H1 D.nx) (RR := fun acc C => compPost (model X.prog X.w) X.A X.xe (some (assign (.Name y py) X.env)) (fun _ s' => SP X pins D .next s') acc C) hc S hcap hif he I2 T st2 f2 hW ?_
  intro Da C H' s' hlt hns hne hfr I' back q
  show wpAny _ X.A (assign (.Name y py) X.env (.ref Da)) _ _ _
  obtain ⟨m, hm⟩ := hns
  refine wpAny_assign_Name (store_ok2 I' hN hj hy (v := .ref Da) rfl (fun s2 I2' ⟨a, hsb, ha⟩ => ?_) hf)
  have hCa : C ≠ a := by
    rcases ha with e | e
    · rw [e]; exact hne
    · rintro rfl
      obtain ⟨v, o, ho, hd⟩ := I'.cell y C e
      obtain ⟨o2, es, ep, ho2, hd2, _⟩ := hm
      rw [ho] at ho2; cases ho2; rw [hd] at hd2; cases hd2
  refine ⟨m, hm.sameBut hsb hCa, fun h' hs' => ?_⟩
  -- the block's own names are let go: nothing else changes
  have hCn : ∀ y c, X.env.cells.lookup y = some c → c ≠ C := fun z c e q => by
    subst q
    obtain ⟨v, o, ho, hd⟩ := I'.cell z c e
    obtain ⟨o2, es, ep, ho2, hd2, _⟩ := hm
    rw [ho] at ho2; cases ho2; rw [hd] at hd2; cases hd2
  have I3 : Inv X pins (σ.set j (some (.ref Da))) H' { s2 with heap := h' } := by
    refine I2'.step (g' := s2.gens) (d' := s2.drawn) (t' := s2.toks) (ch := [C]) (fun b hb => ?_) (fun b o _ _ hb e _ => (hs'.2 b (fun z => hb (by simp [z]))).trans e) (fun b o _ _ hb e _ => ⟨o.slots, (hs'.2 b (fun z => hb (by simp [z]))).trans e⟩) (fun _ _ _ _ n => n) (fun b o hb e => ⟨o, (hs'.2 b (fun z => hb (by simp [z]))).trans e⟩)
      (fun _ _ e => e) (fun _ _ _ e => e) (fun b ps e => ⟨#[], by rw [e]; simp⟩) (fun m' hm' => hm'.sameBut hs' (Ne.symm hne)) (fun b o e => ?_) I2'.bare
    · have e : b = C := by simpa using hb
      subst e
      exact ⟨.inr hlt.1, hne, fun z c e => hCn z c e, hlt.2⟩
    · refine (I2'.hok b o e).stay (fun c w' hc q => (hs'.2 c ?_).trans q) (fun _ q => q) fun _ _ q => q
      rintro rfl
      rcases hc with rfl | hc
      · rw [hfr] at e; cases e
      · rw [hfr] at hc; cases hc
  exact ⟨_, H', I3, q⟩
end
end L2
namespace L2
open PySem PySem.Spec PyProof.Rows
def tyN (H : Hp) : V → Option String
  | .non => some "NoneType"
  | .bl _ => some "bool"
  | .int _ => some "int"
  | .str _ => some "str"
  | .ref a => match H a with
    | some (.lst _) => some "list"
    | some (.frz _ (.lst _)) => some "list"
    | some (.tup _) => some "tuple"
    | some (.dK _) => some "dict"
    | some (.dT _) => some "dict"
    | _ => none
  | _ => none
theorem tyN_of {K : PySem.W.Frag} {H : Hp} {x : V} {t : String} (h : tyN H x = some t) : TyOf K H x (.type t) := by
  cases x with
  | non => cases h; exact .non
  | bl b => cases h; exact .bl b
  | int i => cases h; exact .int i
  | str x => cases h; exact .str x
  | byt _ => cases h
  | flt _ => cases h
  | ty _ => cases h
  | ref a =>
    unfold tyN at h
    dsimp only at h
    split at h
    · rename_i e; cases h; exact .lst e
    · rename_i e; cases h; exact .frz e
    · rename_i e; cases h; exact .tup e
    · rename_i e; cases h; exact .dK e
    · rename_i e; cases h; exact .dT e
    · cases h
def tyL : List String := ["NoneType", "bool", "int", "str", "list", "tuple", "dict"]
theorem tyN_in {H : Hp} {x : V} {t : String} (h : tyN H x = some t) : t ∈ tyL := by
  cases x with
  | non => cases h; decide
  | bl b => cases h; decide
  | int i => cases h; decide
  | str x => cases h; decide
  | byt _ => cases h
  | flt _ => cases h
  | ty _ => cases h
  | ref a =>
    unfold tyN at h
    dsimp only at h
    split at h <;> first | (cases h; decide) | cases h
def isI (t T : String) : Bool := t == T || (T == "int" && t == "bool")
theorem kit_ty (K : PySem.W.Frag) : ∀ t ∈ tyL, ∀ T ∈ ["int", "bool", "str", "tuple", "list", "dict"], PySem.W.kitOne K (.type t) (.type T) = some (isI t T) := by
  intro t ht T hT
  simp only [tyL, List.mem_cons, List.not_mem_nil, or_false] at ht hT
  rcases ht with rfl | rfl | rfl | rfl | rfl | rfl | rfl <;> rcases hT with rfl | rfl | rfl | rfl | rfl | rfl <;> (unfold PySem.W.kitOne; first | rfl | decide +kernel | (simp only [PySem.W.kitCls]; rfl))
section
variable {X : Cx}
theorem call_isi : CallR X (.builtin "isinstance") (fun xs H Q => ∃ x T t, xs = [x, .ty T] ∧ T ∈ ["int", "bool", "str", "tuple", "list", "dict"] ∧ tyN H x = some t ∧ Q (.bl (isI t T)) H) := by
  intro pins s σ H xs us Q I r h
  obtain ⟨x, T, t, rfl, hT, ht, q⟩ := h
  obtain ⟨u, w', rfl, r1, r2⟩ := vals2 r
  cases r2
  exact isinst_ok I r1 (tyN_of ht) (kit_ty X.K t (tyN_in ht) T hT) fun tk => ⟨.bl _, H, I.tok tk, rfl, q⟩
end
end L2
namespace L2
open PySem PySem.Spec PyProof.Rows
section
variable {X : Cx}
end
end L2
namespace L2
open PySem PySem.Spec PyProof.Rows
@[irreducible] def Sel (b : Bool) (A B : Prop) : Prop := if b = true then A else B
theorem Sel.mk {b : Bool} {A B : Prop} (h1 : b = true → A) (h2 : b = false → B) : Sel b A B := by
  unfold Sel
  cases b with
  | true => exact h1 rfl
  | false => exact h2 rfl
theorem Sel.t {A B : Prop} (h : A) : Sel true A B := .mk (fun _ => h) fun e => by cases e
theorem Sel.f {A B : Prop} (h : B) : Sel false A B := .mk (fun e => by cases e) fun _ => h
theorem Sel.dec {p A B : Prop} [Decidable p] (h1 : p → A) (h2 : ¬ p → B) : Sel (decide p) A B := .mk (fun e => h1 (of_decide_eq_true e)) fun e => h2 (of_decide_eq_false e)
theorem Sel.ndec {p A B : Prop} [Decidable p] (h1 : ¬ p → A) (h2 : p → B) : Sel (!decide p) A B := .mk (fun e => h1 (by simpa using e)) fun e => h2 (by simpa using e)
theorem Sel.yes {b : Bool} {A B : Prop} (e : b = true) (h : A) : Sel b A B := by rw [e]; exact .t h
theorem Sel.no {b : Bool} {A B : Prop} (e : b = false) (h : B) : Sel b A B := by rw [e]; exact .f h
theorem sel_ite {b : Bool} {A B : Prop} (h : Sel b A B) : if b = true then A else B := by unfold Sel at h; exact h
theorem Sel.both {b : Bool} {A : Prop} (h : A) : Sel b A A := .mk (fun _ => h) fun _ => h

def mVar (i : Nat) : TE := fun σ H Q => match σ[i]? with | some (some v) => Q v H | _ => False
section
variable {X : Cx}
theorem PE.imp {e : Expr} {t t' : TE} (h : PE X e t) (i : ∀ σ H Q, t' σ H Q → t σ H Q) : PE X e t' := fun pins s σ H Q I q => h pins s σ H Q I (i _ _ _ q)
theorem PT.imp {e : Expr} {t t' : TT} (h : PT X e t) (i : ∀ σ H Q, t' σ H Q → t σ H Q) : PT X e t' := fun pins s σ H Q I q => h pins s σ H Q I (i _ _ _ q)
theorem PS.imp {e : Stmt} {t t' : TS} (h : PS X e t) (i : ∀ D σ H, t' D σ H → t D σ H) : PS X e t' := fun pins s σ H Q I q => h pins s σ H Q I (i _ _ _ q)
theorem OpR.imp {f : Value → Value → Sem Value} {r r' : R2} (h : OpR X f r) (i : ∀ x y H Q, r' x y H Q → r x y H Q) : OpR X f r' := fun pins s σ H x y v u Q I rx ry q => h pins s σ H x y v u Q I rx ry (i _ _ _ _ q)
theorem qv (i : Nat) {x : Str} {pos : Pos} (hN : X.N[i]? = some x := by rfl) (hv : Vis X.env.scope x := by first | exact Or.inl rfl | exact Or.inr (Or.inl rfl) | exact Or.inr (Or.inr rfl)) (hd : (x == ("__debug__" : Str)) = false := by decide)
    (hcd : (x == ("__classdict__" : Str)) = false := by decide) : PE X (.Name x pos) (mVar i) := (pe_var hN hv hd hcd).imp fun σ H Q q => by
  unfold mVar at q
  split at q
  · rename_i v e; exact ⟨v, e, q⟩
  · exact q.elim
theorem op_mulG : OpR X (binaryOp .Mult) (rI IntMulOk fun i j => .int (i * j)) := opI fun _ _ _ _ _ _ _ hc q => mul_int q hc
def mMul : R2 := fun x y H Q => match x, y with
  | .int i, .int j => IntMulOk i j ∧ Q (.int (i * j)) H
  | _, _ => False
theorem oMul : OpR X (binaryOp .Mult) mMul := op_mulG.imp fun x y H Q q => by
  unfold mMul at q
  split at q
  · exact ⟨_, _, rfl, rfl, q.1, q.2⟩
  · exact q.elim
def mFdiv : R2 := fun x y H Q => match x, y with | .int i, .int j => (0 < j ∧ j < 1073741824) ∧ Q (.int (i / j)) H | _, _ => False
theorem oFdiv : OpR X (binaryOp .FloorDiv) mFdiv := op_fdiv.imp fun x y H Q q => by
  unfold mFdiv at q
  split at q
  · exact ⟨_, _, rfl, rfl, q.1, q.2⟩
  · exact q.elim
def mMod : R2 := fun x y H Q => match x, y with | .int i, .int j => 0 < j ∧ Q (.int (i % j)) H | _, _ => False
theorem oMod : OpR X (binaryOp .Mod) mMod := op_mod.imp fun x y H Q q => by
  unfold mMod at q
  split at q
  · exact ⟨_, _, rfl, rfl, q.1, q.2⟩
  · exact q.elim
def mLt : R2 := fun x y H Q => match x, y with | .int i, .int j => Q (.bl (decide (i < j))) H | _, _ => False
theorem oLt : OpR X (compareOp .Lt) mLt := op_lt.imp fun x y H Q q => by
  unfold mLt at q
  split at q
  · exact ⟨_, _, rfl, rfl, q⟩
  · exact q.elim
def mGt : R2 := fun x y H Q => match x, y with | .int i, .int j => Q (.bl (decide (j < i))) H | _, _ => False
theorem oGt : OpR X (compareOp .Gt) mGt := op_gt.imp fun x y H Q q => by
  unfold mGt at q
  split at q
  · exact ⟨_, _, rfl, rfl, q⟩
  · exact q.elim
def mEq : R2 := fun x y H Q => match x, y with
  | .int i, .int j => Q (.bl (decide (i = j))) H
  | .str i, .str j => Q (.bl (decide (i = j))) H
  | .bl i, .bl j => Q (.bl (decide (i = j))) H
  | .non, .non => Q (.bl true) H
  | .non, .int _ => Q (.bl false) H | .int _, .non => Q (.bl false) H | .non, .bl _ => Q (.bl false) H | .bl _, .non => Q (.bl false) H | .non, .str _ => Q (.bl false) H | .str _, .non => Q (.bl false) H
  | .int _, .str _ => Q (.bl false) H | .str _, .int _ => Q (.bl false) H | .bl _, .str _ => Q (.bl false) H | .str _, .bl _ => Q (.bl false) H
  | _, _ => False
theorem decV {α : Type} [DecidableEq α] {f : α → V} (hf : ∀ a b, f a = f b → a = b) (a b : α) : decide (f a = f b) = decide (a = b) := by
  by_cases h : a = b
  · subst h; simp
  · rw [decide_eq_false h, decide_eq_false fun e => h (hf a b e)]
theorem oEq : OpR X (compareOp .Eq) mEq := op_eq.imp fun x y H Q q => by
  unfold mEq at q
  split at q
  · exact ⟨rfl, by rw [decV (f := V.int) fun _ _ e => V.int.inj e]; exact q⟩
  · exact ⟨rfl, by rw [decV (f := V.str) fun _ _ e => V.str.inj e]; exact q⟩
  · exact ⟨rfl, by rw [decV (f := V.bl) fun _ _ e => V.bl.inj e]; exact q⟩
  · exact ⟨rfl, by simpa using q⟩
  all_goals first | exact q.elim | exact ⟨rfl, q⟩
def mNe : R2 := fun x y H Q => match x, y with
  | .int i, .int j => Q (.bl (!decide (i = j))) H
  | .str i, .str j => Q (.bl (!decide (i = j))) H
  | .bl i, .bl j => Q (.bl (!decide (i = j))) H
  | .non, .non => Q (.bl false) H
  | .non, .int _ => Q (.bl true) H | .int _, .non => Q (.bl true) H | .non, .bl _ => Q (.bl true) H | .bl _, .non => Q (.bl true) H | .non, .str _ => Q (.bl true) H | .str _, .non => Q (.bl true) H
  | .int _, .str _ => Q (.bl true) H | .str _, .int _ => Q (.bl true) H | .bl _, .str _ => Q (.bl true) H | .str _, .bl _ => Q (.bl true) H
  | _, _ => False
theorem oNe : OpR X (compareOp .NotEq) mNe := op_ne.imp fun x y H Q q => by
  unfold mNe at q
  split at q
  · exact ⟨rfl, by rw [decV (f := V.int) fun _ _ e => V.int.inj e]; exact q⟩
  · exact ⟨rfl, by rw [decV (f := V.str) fun _ _ e => V.str.inj e]; exact q⟩
  · exact ⟨rfl, by rw [decV (f := V.bl) fun _ _ e => V.bl.inj e]; exact q⟩
  · exact ⟨rfl, by simpa using q⟩
  all_goals first | exact q.elim | exact ⟨rfl, q⟩
def mIsN : R2 := fun x y H Q => match y with | .non => Q (.bl (match x with | .non => true | _ => false)) H | _ => False
theorem oIs : OpR X (compareOp .Is) mIsN := op_isN.imp fun x y H Q q => by
  unfold mIsN at q
  split at q
  · refine ⟨rfl, ?_⟩
    cases x <;> simpa using q
  · exact q.elim
def mTest (t : TE) : TT := fun σ H Q => t σ H fun x H' => match x with | .bl k => Q k H' | _ => False
theorem qtc {op : CmpOp} {r : R2} {a b : Expr} {ta tb : TE} {pos : Pos} (ho : OpR X (compareOp op) r) (ha : PE X a ta) (hb : PE X b tb) (hm : behindInMarks op b = false := by first | exact nomark _ | rfl) : PT X (.Compare a [op] [b] pos) (mTest (tOp r ta tb)) := by
  intro pins s σ H Q I h
  refine wpAny_isTrue_Compare1 (thn (ha pins s σ H _ I h) fun v s1 ⟨x, H1, I1, r1, q1⟩ => thn (hb pins s1 σ H1 _ I1 q1) fun u s2 ⟨y, H2, I2, r2, q2⟩ =>
    thn (ho pins s2 σ H2 x y v u _ I2 r1 r2 q2) fun c s3 ⟨z, H3, I3, r3, q3⟩ => ?_) hm
  cases z <;> first | exact q3.elim | (cases r3; exact wpAny_truthy_bool ⟨H3, I3, q3⟩)
theorem qc {op : CmpOp} {r : R2} {a b : Expr} {ta tb : TE} {pos : Pos} (ho : OpR X (compareOp op) r) (ha : PE X a ta) (hb : PE X b tb) (hm : behindInMarks op b = false := by first | exact nomark _ | rfl) : PE X (.Compare a [op] [b] pos) (tOp r ta tb) := pe_cmpR ho ha hb hm
def mTru (K : PySem.W.Frag) (t : TE) : TT := fun σ H Q => t σ H fun x H' => match x with
  | .bl k => Q k H'
  | .non => Q false H'
  | .int i => Q (i != 0) H'
  | x => ∃ k, TruV K x H' k ∧ Q k H'
theorem qtb {e : Expr} {t : TE} (h : PE X e t) (he : ∀ whole, isTrue e X.env whole = (do let v ← whole; standAt e.pos; holding [v] (truthy v)) := by intro _; rfl) : PT X e (mTru X.K t) := by
  intro pins s σ H Q I q
  refine isTrue_plain (thn (h pins s σ H _ I q) fun v s1 ⟨x, H1, I1, r1, q1⟩ => tru_ok pins s1 σ H1 x v Q I1 r1 ?_) (he _)
  cases x <;> first | exact ⟨_, rfl, q1⟩ | exact q1
def mAnd (t u : TT) : TT := fun σ H Q => t σ H fun c H1 => Sel c (u σ H1 Q) (Q false H1)
def mOr (t u : TT) : TT := fun σ H Q => t σ H fun c H1 => Sel c (Q true H1) (u σ H1 Q)
theorem PW.imp {e : Expr} {t t' : TT} (h : PW X e t) (i : ∀ σ H Q, t' σ H Q → t σ H Q) : PW X e t' := fun whole pins s σ H Q I q => h whole pins s σ H Q I (i _ _ _ q)
variable {a b c : Expr} {ta tb : TE} {tA tB' : TT} {rest : List Expr} {pos : Pos}
theorem PT.mono {e : Expr} {t : TT} (h : PT X e t) {pins : List (Addr × Obj)} {s : Shared} {σ : St} {H : Hp} {Q Q' : Bool → Hp → Prop} (I : Inv X pins σ H s) (q : t σ H Q) (i : ∀ b H, Q b H → Q' b H) : wpAny (model X.prog X.w) X.A (isTrue e X.env (eval e X.env)) (TP X pins σ Q') X.xe s :=
  thn (h pins s σ H Q I q) fun b s' ⟨H', I', q'⟩ => ⟨H', I', i _ _ q'⟩
theorem qw_and1 (ha : PT X a tA) : PW X (.BoolOp .And [a] pos) tA := pw_and1 ha
theorem qw_or1 (ha : PT X a tA) : PW X (.BoolOp .Or [a] pos) tA := pw_or1 ha
theorem qw_and (ha : PT X a tA) (hb : PW X (.BoolOp .And (b :: rest) pos) tB') : PW X (.BoolOp .And (a :: b :: rest) pos) (mAnd tA tB') := by
  intro wh pins s σ H Q I h
  refine isTrue_and (thn (ha pins s σ H _ I h) fun c s1 ⟨H1, I1, q1⟩ => ?_)
  have q1 := sel_ite q1
  cases c with
  | true => exact hb wh pins s1 σ H1 Q I1 q1
  | false => exact ⟨H1, I1, q1⟩
theorem qw_or (ha : PT X a tA) (hb : PW X (.BoolOp .Or (b :: rest) pos) tB') : PW X (.BoolOp .Or (a :: b :: rest) pos) (mOr tA tB') := by
  intro wh pins s σ H Q I h
  refine isTrue_or (thn (ha pins s σ H _ I h) fun c s1 ⟨H1, I1, q1⟩ => ?_)
  have q1 := sel_ite q1
  cases c with
  | true => exact ⟨H1, I1, q1⟩
  | false => exact hb wh pins s1 σ H1 Q I1 q1
def mAndV (ta tb : TE) : TE := fun σ H Q => ta σ H fun x H1 => match x with | .bl c => Sel c (tb σ H1 Q) (Q (.bl false) H1) | _ => False
theorem qand (ha : PE X a ta) (hb : PE X (.BoolOp .And (b :: rest) pos) tb) : PE X (.BoolOp .And (a :: b :: rest) pos) (mAndV ta tb) := by
  intro pins s σ H Q I h
  refine BoolOp_and (thn (ha pins s σ H _ I h) fun v s1 ⟨x, H1, I1, r1, q1⟩ => ?_)
  cases x <;> first | exact q1.elim | skip
  rename_i c
  cases r1
  refine wpAny_truthy_bool ?_
  have q1 := sel_ite q1
  cases c with
  | true => exact hb pins s1 σ H1 Q I1 q1
  | false => exact ⟨.bl false, H1, I1, rfl, q1⟩
def mIfS (c : TT) (t u : TS) : TS := fun D σ H => c σ H fun b H1 => Sel b (t D σ H1) (u D σ H1)
theorem qif {c : Expr} {l m : List Stmt} {tc : TT} {t u : TS} (hc : PT X c tc) (ha : PSs X l t) (hb : PSs X m u) : PS X (.If c l m pos) (mIfS tc t u) := by
  intro pins s σ H D I h
  refine wpAny_If (thn (hc pins s σ H _ I h) fun d s1 ⟨H1, I1, q1⟩ => ?_)
  have q1 := sel_ite q1
  cases d with
  | true => exact ha pins s1 σ H1 D I1 q1
  | false => exact hb pins s1 σ H1 D I1 q1
theorem qlen : CallR X (.builtin "len") (fun xs H Q => match xs with
    | [.str y] => y.length ≤ sizeLine ∧ Q (.int y.length) H
    | [.ref p] => (∃ xs, SqL X.K H p xs ∧ Q (.int xs.length) H) ∨ (∃ xs, SqT X.K H p xs ∧ Q (.int xs.length) H) ∨ ∃ kvs, H p = some (.dK kvs) ∧ Q (.int kvs.length) H
    | _ => False) := by
  intro pins s σ H xs us Q I r h
  split at h
  · rename_i y
    exact call_len pins s σ H _ us Q I r ⟨_, _, rfl, ⟨h.1, rfl⟩, h.2⟩
  · rename_i p
    rcases h with ⟨ys, h1, h2⟩ | ⟨ys, h1, h2⟩ | ⟨kvs, h1, h2⟩
    · exact call_len pins s σ H _ us Q I r ⟨_, _, rfl, .inl ⟨ys, h1, rfl⟩, h2⟩
    · exact call_len pins s σ H _ us Q I r ⟨_, _, rfl, .inr ⟨ys, h1, rfl⟩, h2⟩
    · exact call_lenD pins s σ H _ us Q I r ⟨p, kvs, rfl, h1, h2⟩
  · exact h.elim
end
end L2
namespace L2
open PySem PySem.Spec PyProof.Rows
section
variable {X : Cx} {tg : Expr}
def kLen (K : PySem.W.Frag) : List V → Hp → VK → Prop := fun xs H Q => match xs with
    | [.str y] => y.length ≤ sizeLine ∧ Q (.int y.length) H
    | [.ref p] => (∃ xs, SqL K H p xs ∧ Q (.int xs.length) H) ∨ (∃ xs, SqT K H p xs ∧ Q (.int xs.length) H) ∨ ∃ kvs, H p = some (.dK kvs) ∧ Q (.int kvs.length) H
    | _ => False
theorem cLen : CallR X (.builtin "len") (kLen X.K) := qlen
def kIsi : List V → Hp → VK → Prop := fun xs H Q => match xs with
  | [x, .ty T] => T ∈ ["int", "bool", "str", "tuple", "list", "dict"] ∧ ∃ t, tyN H x = some t ∧ Q (.bl (isI t T)) H
  | _ => False
theorem cIsi : CallR X (.builtin "isinstance") kIsi := fun pins s σ H xs us Q I r h => by
  unfold kIsi at h
  split at h
  · obtain ⟨h1, t, h2, h3⟩ := h
    exact call_isi pins s σ H _ us Q I r ⟨_, _, t, rfl, h1, h2, h3⟩
  · exact h.elim
def kList (K : PySem.W.Frag) : List V → Hp → VK → Prop := fun xs H Q => ∃ p ys, xs = [.ref p] ∧ (SqL K H p ys ∨ SqT K H p ys) ∧ ∀ l, H l = none → Q (.ref l) (upd H l (.lst ys))
theorem cList : CallR X (.type "list") (kList X.K) := call_list_of
def kStr : List V → Hp → VK → Prop := fun xs H Q => match xs with
  | [.int i] => i.natAbs.log2 < 1920 ∧ Q (.str (toString i)) H
  | _ => False
theorem cStr : CallR X (.type "str") kStr := fun pins s σ H xs us Q I r h => by
  unfold kStr at h
  split at h
  · exact call_str_int pins s σ H _ us Q I r ⟨_, rfl, h.1, h.2⟩
  · exact h.elim
def kOrd : List V → Hp → VK → Prop := fun xs H Q => match xs with
  | [.str x] => x.length = 1 ∧ Q (.int (x.cps.getD 0 0 : Nat)) H
  | _ => False
theorem cOrd : CallR X (.builtin "ord") kOrd := fun pins s σ H xs us Q I r h => by
  unfold kOrd at h
  split at h
  · exact call_ord pins s σ H _ us Q I r ⟨_, rfl, h.1, h.2⟩
  · exact h.elim
end
end L2
namespace L2
open PySem PySem.Spec PyProof.Rows
structure Items (J : It) (n : Nat) (it : Nat → V) (Pv : Hp → Prop) : Prop where
  go : ∀ i H, i < n → Pv H → J.go i H
  yld : ∀ i H x H', i < n → Pv H → J.yld i H x H' → H' = H ∧ x = it i
  stop : ∀ H, Pv H → J.stop n H
theorem Items.list {K : PySem.W.Frag} {a : Addr} {xs : List V} (d : V) : Items (Itl K a) xs.length (fun i => xs.getD i d) (fun H => SqL K H a xs) where
  go := fun i H hi h => ⟨xs, xs[i], h, by simp [hi]⟩
  yld := fun i H x H' hi h y => ⟨y.1, by have := y.2 xs h; rw [List.getD_eq_getElem?_getD, this]; rfl⟩
  stop := fun H h => ⟨xs, h, Nat.le_refl _⟩
theorem Items.tuple {K : PySem.W.Frag} {a : Addr} {xs : List V} (d : V) : Items (Itt K a) xs.length (fun i => xs.getD i d) (fun H => SqT K H a xs) where
  go := fun i H hi h => ⟨xs, xs[i], h, by simp [hi]⟩
  yld := fun i H x H' hi h y => ⟨y.1, by have := y.2 xs h; rw [List.getD_eq_getElem?_getD, this]; rfl⟩
  stop := fun H h => ⟨xs, h, Nat.le_refl _⟩
theorem Items.range {lo : Int} {n : Nat} : Items (Itr lo n) n (fun i => .int (lo + i)) (fun _ => True) where
  go := fun i H hi _ => hi
  yld := fun i H x H' hi _ y => y
  stop := fun H _ => Nat.le_refl _
def CWd (n : Nat) (Pv : Nat → List V → Hp → Prop) : Nat → Nat → List V → Hp → Prop := fun i m ys H => i ≤ n ∧ m = n - i ∧ Pv i ys H
theorem CWd.next {n i : Nat} {Pv : Nat → List V → Hp → Prop} {ys : List V} {H : Hp} (hi : i < n) (h : Pv (i + 1) ys H) : ∃ m', m' < n - i ∧ CWd n Pv (i + 1) m' ys H := ⟨n - (i + 1), by omega, hi, rfl, h⟩
theorem comp_by {J : It} {n : Nat} {it : Nat → V} {Pk : Hp → Prop} {σ : St} {is : List Nat} {tc : TT} {te : TE} {Q : VK} {H1 : Hp} {D : Addr} (T : Items J n it Pk) (Pv : Nat → List V → Hp → Prop)
    (hk : ∀ i ys H, i ≤ n → Pv i ys H → Pk H) (h0 : Pv 0 [] (upd H1 D (.lst [])))
    (hs : ∀ i ys H2, i < n → Pv i ys H2 → tc (some (it i) :: capSt σ is) H2 fun b H4 => if b = true then
      te (some (it i) :: capSt σ is) H4 fun y H5 => H5 D = some (.lst ys) ∧ ys.length < sizeLine ∧ ∃ m', m' < n - i ∧ CWd n Pv (i + 1) m' (ys ++ [y]) (upd H5 D (.lst (ys ++ [y])))
      else ∃ m', m' < n - i ∧ CWd n Pv (i + 1) m' ys H4)
    (hd : ∀ ys H, Pv n ys H → Q (.ref D) H) : CompW is tc te σ D J H1 Q := by
  refine ⟨CWd n Pv, ⟨n, Nat.zero_le _, rfl, h0⟩, ?_⟩
  rintro i m ys H2 ⟨hi, rfl, p⟩
  by_cases hlt : i < n
  · refine .inr ⟨T.go i H2 hlt (hk i ys H2 hi p), fun x H3 y => ?_⟩
    obtain ⟨rfl, rfl⟩ := T.yld i H2 x H3 hlt (hk i ys H2 hi p) y
    exact hs i ys _ hlt p
  · have e : i = n := by omega
    subst e
    exact .inl ⟨T.stop H2 (hk _ ys H2 hi p), hd ys H2 p⟩
theorem Same.upd {H : Hp} {p : Addr} {o : HO} (h : H p = none) : Same H (upd H p o) := fun b u e => by rw [upd_ne (ne_of_none e h)]; exact e
theorem Same.put {H H' : Hp} {p : Addr} {o : HO} (s : Same H H') (h : H p = none) : Same H (L2.upd H' p o) := fun b u e => by rw [upd_ne (ne_of_none e h)]; exact s b u e
theorem Same.tyN {H H' : Hp} (s : Same H H') {v : V} {t : String} (h : L2.tyN H v = some t) : L2.tyN H' v = some t := by
  cases v with
  | ref a =>
    unfold L2.tyN at h ⊢
    dsimp only at h ⊢
    split at h <;> first | (rename_i e; rw [s _ _ e]; exact h) | cases h
  | _ => exact h
theorem atI_lt {xs : List V} {i : Int} (h0 : 0 ≤ i) (h1 : i < xs.length) : atI xs i = some (xs.getD i.toNat .non) := by
  unfold atI ixN
  rw [if_pos h0, if_pos h1]
  show xs[i.toNat]? = _
  rw [List.getD_eq_getElem?_getD]
  have : i.toNat < xs.length := by omega
  rw [List.getElem?_eq_getElem this]; rfl
end L2
namespace L2
open PySem PySem.Spec PyProof.Rows
def notStar : Expr → Bool
  | .Starred _ _ => false
  | _ => true
theorem starEach_plain {e : Expr} (h : notStar e = true) (rest : List Expr) (env : Env) : starEach (e :: rest) env = (false, eval e env) :: starEach rest env := by
  cases e <;> first | rfl | cases h
def noStars : List Expr → Bool
  | [] => true
  | e :: r => notStar e && noStars r
theorem noStars_any : ∀ {es : List Expr} {env : Env} {pos : Pos}, noStars es = true → (backTo pos (starEach es env)).any (·.1) = false
  | [], _, _, _ => rfl
  | e :: r, env, pos, h => by
    have h : (notStar e && noStars r) = true := h
    rw [Bool.and_eq_true] at h
    rw [starEach_plain h.1]
    show (false || (backTo pos (starEach r env)).any (·.1)) = false
    rw [noStars_any h.2]; rfl
section
variable {X : Cx} {e : Expr} {es : List Expr} {te : TE} {t : TA} {pos : Pos}
theorem qa_cons (ha : PE X e te) (hr : PA X es t) (hs : notStar e = true := by rfl) : PA X (e :: es) (tCons te t) := pa_cons ha hr (starEach_plain hs es X.env)
variable {x : Str} {p apos cpos : Pos} {id T : String} {r : List V → Hp → VK → Prop}
theorem q_callB (hc : CallR X (.builtin id) r) (hg : Gl X x) (hm : X.mg x = none) (hv : bootBuiltins x = some (.builtin id)) (ha : PA X (e :: es) t) (hn : x ≠ "__name__" := by decide) (hdb : (x == ("__debug__" : Str)) = false := by decide)
    (hs : noStars (e :: es) = true := by rfl) : PE X (.Call (.Name x p) (e :: es) [] pos) (tCB r t) :=
  have h : (notStar e && noStars es) = true := hs
  pe_callB hc hg hm hv ha hn hdb (starEach_plain (Bool.and_eq_true_iff.mp h).1 es X.env) (noStars_any (Bool.and_eq_true_iff.mp h).2)
theorem q_callTy (hc : CallR X (.type T) r) (hg : Gl X x) (hm : X.mg x = none) (hv : bootBuiltins x = some (.type T)) (ha : PA X (e :: es) t) (hn : x ≠ "__name__" := by decide) (hdb : (x == ("__debug__" : Str)) = false := by decide)
    (hs : noStars (e :: es) = true := by rfl) : PE X (.Call (.Name x p) (e :: es) [] pos) (tCB r t) :=
  have h : (notStar e && noStars es) = true := hs
  pe_callTy hc hg hm hv ha hn hdb (starEach_plain (Bool.and_eq_true_iff.mp h).1 es X.env) (noStars_any (Bool.and_eq_true_iff.mp h).2)
variable {CX : CXT} {k : Nat} {f C : Addr} {fd : FuncData} {ps : List Str} {sp : Sp} {dvs : List V} {ds : List Value} {E : XK} {m : Str} {o : Expr} {ta : TE}
theorem all_noStars : ∀ {es : List Expr} {env : Env} {pos : Pos}, noStars es = true → (backTo pos (starEach es env)).all (fun x => !x.1) = true
  | [], _, _, _ => rfl
  | e :: r, env, pos, h => by
    have h : (notStar e && noStars r) = true := h
    rw [Bool.and_eq_true] at h
    rw [starEach_plain h.1]
    show (true && (backTo pos (starEach r env)).all (fun x => !x.1)) = true
    rw [all_noStars h.2]; rfl
variable {to : TE} {name : Str} {rm : V → List V → Hp → VK → Prop}
theorem q_bm (pa : PlainAttrs T) (slot : Slot T name id) (hty : typeOf (.builtin id) = pure (.type "method_descriptor")) (hm : MtR X id rm) (ho : PE X o to) (ha : PA X (e :: es) t)
    (hbase : attributeBase o name X.env (eval o X.env) = eval o X.env := by rfl) (hfew : decide ((e :: es).length < 30) = true := by rfl)
    (hline : (apos.endLine == cpos.line) = true := by rfl) (hs : noStars (e :: es) = true := by rfl) : PE X (.Call (.Attribute o name apos) (e :: es) [] cpos) (tBM X.K T rm to t) :=
  have h : (notStar e && noStars es) = true := hs
  pe_bm pa slot hty hm ho ha hbase (by rw [all_noStars hs]; exact hfew) hline (starEach_plain (Bool.and_eq_true_iff.mp h).1 es X.env) (noStars_any (Bool.and_eq_true_iff.mp h).2)
end
end L2
namespace L2
open PySem PySem.Spec PyProof.Rows
structure QE (X : Cx) (e : Expr) (t : TE) : Prop where
  out : PE X e t
structure QT (X : Cx) (e : Expr) (t : TT) : Prop where
  out : PT X e t
structure QW (X : Cx) (e : Expr) (t : TT) : Prop where
  out : PW X e t
structure QA (X : Cx) (e : List Expr) (t : TA) : Prop where
  out : PA X e t
structure QS (X : Cx) (e : Stmt) (t : TS) : Prop where
  out : PS X e t
structure QSs (X : Cx) (e : List Stmt) (t : TS) : Prop where
  out : PSs X e t
structure QI (X : Cx) (tg iter : Expr) (t : TI) : Prop where
  out : PI X tg iter t
structure QG (X : Cx) (tg : Expr) (t : TG) : Prop where
  out : PG X tg t
structure QO (X : Cx) (e : Option Expr) (t : TO) : Prop where
  out : PO X e t
structure QIfs (X : Cx) (e : List Expr) (t : TT) : Prop where
  out : PIfs X e t
structure QP (X : Cx) (pos : Pos) (ks : List (Option Expr)) (vs : List Expr) (t : List (TE × TE)) : Prop where
  out : PPs X pos ks vs t
section
variable {X : Cx} {a b c e o : Expr} {es rest : List Expr} {ta tb tc te to tv : TE} {tA tB' : TT} {t : TA} {pos apos cpos p : Pos} {x y : Str}
theorem x_var (i : Nat) (hN : X.N[i]? = some x := by rfl) (hv : Vis X.env.scope x := by first | exact Or.inl rfl | exact Or.inr (Or.inl rfl) | exact Or.inr (Or.inr rfl)) (hd : (x == ("__debug__" : Str)) = false := by decide)
    (hcd : (x == ("__classdict__" : Str)) = false := by decide) : QE X (.Name x pos) (mVar i) := ⟨qv i hN hv hd hcd⟩
theorem x_ty {T : String} (hm : X.mg x = none) (hv : bootBuiltins x = some (.type T)) (hg : Gl X x := by rfl) (hn : x ≠ "__name__" := by decide) (hd : (x == ("__debug__" : Str)) = false := by decide) : QE X (.Name x pos) (tC (.ty T)) := ⟨pe_bltn hg hm hv rfl hn hd⟩
theorem x_int {i : Int} {j} : QE X (.Constant (.int i) j pos) (tC (.int i)) := ⟨pe_int⟩
theorem x_bl {b : Bool} {j} : QE X (.Constant (.bool b) j pos) (tC (.bl b)) := ⟨pe_bl⟩
theorem x_non {j} : QE X (.Constant .none j pos) (tC .non) := ⟨pe_non⟩
theorem x_str {z : Str} {j} : QE X (.Constant (.str z) j pos) (tC (.str z)) := ⟨pe_str⟩
theorem x_op {op : Operator} {r : R2} (ho : OpR X (binaryOp op) r) (ha : QE X a ta) (hb : QE X b tb) : QE X (.BinOp a op b pos) (tOp r ta tb) := ⟨pe_op ho ha.out hb.out⟩
theorem x_cmp {op : CmpOp} {r : R2} (ho : OpR X (compareOp op) r) (ha : QE X a ta) (hb : QE X b tb) (hm : behindInMarks op b = false := by first | exact nomark _ | rfl) : QE X (.Compare a [op] [b] pos) (tOp r ta tb) := ⟨qc ho ha.out hb.out hm⟩
theorem x_one {op} (h : QE X a ta) : QE X (.BoolOp op [a] pos) ta := ⟨pe_one h.out⟩
theorem x_and (ha : QE X a ta) (hb : QE X (.BoolOp .And (b :: rest) pos) tb) : QE X (.BoolOp .And (a :: b :: rest) pos) (mAndV ta tb) := ⟨qand ha.out hb.out⟩
theorem x_nil : QA X [] tNil := ⟨pa_nil⟩
theorem x_cons (ha : QE X e te) (hr : QA X es t) (hs : notStar e = true := by rfl) : QA X (e :: es) (tCons te t) := ⟨qa_cons ha.out hr.out hs⟩
theorem x_lst (h : QA X es t) : QE X (.List es pos) (tLst t) := ⟨pe_lst h.out⟩
theorem x_tup {x1} (h : QA X es t) : QE X (.Tuple es x1 pos) (tTup t) := ⟨pe_tup h.out⟩
theorem x_ix {r : R2} (hr : IxR X r) (ha : QE X a ta) (hb : QE X b tb) (hs : PlainIx b) : QE X (.Subscript a b pos) (tOp r ta tb) := ⟨pe_ix hr ha.out hb.out hs⟩
theorem x_osome (h : QE X e te) : QO X (some e) (tPart te) := ⟨po_some h.out⟩
theorem x_slice {r : V → Option Int → Option Int → Hp → VK → Prop} {lo hi : Option Expr} {tl th : TO} {p2 : Pos} (hr : SlR X r) (he : QE X e te) (hl : QO X lo tl) (hu : QO X hi th) : QE X (.Subscript e (.Slice lo hi none p2) pos) (tSl r te tl th) := ⟨pe_slice hr he.out hl.out hu.out⟩
variable {id T : String} {r : List V → Hp → VK → Prop}
theorem x_callB (hc : CallR X (.builtin id) r) (hm : X.mg x = none) (hv : bootBuiltins x = some (.builtin id)) (ha : QA X (e :: es) t) (hg : Gl X x := by rfl) (hn : x ≠ "__name__" := by decide) (hdb : (x == ("__debug__" : Str)) = false := by decide)
    (hs : noStars (e :: es) = true := by rfl) : QE X (.Call (.Name x p) (e :: es) [] pos) (tCB r t) := ⟨q_callB hc hg hm hv ha.out hn hdb hs⟩
theorem x_callTy (hc : CallR X (.type T) r) (hm : X.mg x = none) (hv : bootBuiltins x = some (.type T)) (ha : QA X (e :: es) t) (hg : Gl X x := by rfl) (hn : x ≠ "__name__" := by decide) (hdb : (x == ("__debug__" : Str)) = false := by decide)
    (hs : noStars (e :: es) = true := by rfl) : QE X (.Call (.Name x p) (e :: es) [] pos) (tCB r t) := ⟨q_callTy hc hg hm hv ha.out hn hdb hs⟩
variable {CX : CXT} {k : Nat} {f C : Addr} {fd : FuncData} {ps : List Str} {sp : Sp} {dvs : List V} {ds : List Value} {E : XK} {m : Str}
variable {name : Str} {rm : V → List V → Hp → VK → Prop}
theorem x_bm (pa : PlainAttrs T) (slot : Slot T name id) (hty : typeOf (.builtin id) = pure (.type "method_descriptor")) (hm : MtR X id rm) (ho : QE X o to) (ha : QA X (e :: es) t)
    (hbase : attributeBase o name X.env (eval o X.env) = eval o X.env := by rfl) (hfew : decide ((e :: es).length < 30) = true := by rfl)
    (hline : (apos.endLine == cpos.line) = true := by rfl) (hs : noStars (e :: es) = true := by rfl) : QE X (.Call (.Attribute o name apos) (e :: es) [] cpos) (tBM X.K T rm to t) := ⟨q_bm pa slot hty hm ho.out ha.out hbase hfew hline hs⟩
theorem x_tcmp {op : CmpOp} {r : R2} (ho : OpR X (compareOp op) r) (ha : QE X a ta) (hb : QE X b tb) (hm : behindInMarks op b = false := by first | exact nomark _ | rfl) : QT X (.Compare a [op] [b] pos) (mTest (tOp r ta tb)) := ⟨qtc ho ha.out hb.out hm⟩
theorem x_test (h : QE X e te) (he : ∀ whole, isTrue e X.env whole = (do let v ← whole; standAt e.pos; holding [v] (truthy v)) := by intro _; rfl) : QT X e (mTru X.K te) := ⟨qtb h.out he⟩
theorem x_tnot (ha : QT X a tA) : QT X (.UnaryOp .Not a pos) (tNot tA) := ⟨pt_not ha.out⟩
theorem x_w (h : QW X e tA) : QT X e tA := ⟨h.out.pt⟩
theorem x_wand1 (ha : QT X a tA) : QW X (.BoolOp .And [a] pos) tA := ⟨qw_and1 ha.out⟩
theorem x_wor1 (ha : QT X a tA) : QW X (.BoolOp .Or [a] pos) tA := ⟨qw_or1 ha.out⟩
theorem x_wand (ha : QT X a tA) (hb : QW X (.BoolOp .And (b :: rest) pos) tB') : QW X (.BoolOp .And (a :: b :: rest) pos) (mAnd tA tB') := ⟨qw_and ha.out hb.out⟩
theorem x_wor (ha : QT X a tA) (hb : QW X (.BoolOp .Or (b :: rest) pos) tB') : QW X (.BoolOp .Or (a :: b :: rest) pos) (mOr tA tB') := ⟨qw_or ha.out hb.out⟩
variable {tg iter elt : Expr} {wi : TI} {ifs : List Expr} {scope : Scope} {ys : List Str} {is : List Nat} {px py spos : Pos}
theorem x_range1 (hm : X.mg "range" = none) (ha : QA X [a] t) (hg : Gl X "range" := by rfl) (hs : notStar a = true := by rfl) : QI X tg (.Call (.Name "range" p) [a] [] pos) (iRng1 t) := ⟨pi_range1 hg hm ha.out (starEach_plain hs [] X.env)⟩
theorem x_noif : QIfs X [] (fun _ H Q => Q true H) := ⟨rfl⟩
variable {st : Stmt} {sts : List Stmt} {tS uS : TS} {i j : Nat}
theorem x_snil : QSs X [] tNext := ⟨pss_nil⟩
theorem x_sone (h : QS X st tS) : QSs X [st] tS := ⟨pss_one h.out⟩
theorem x_scons (h1 : QS X st tS) (h2 : QSs X sts uS) : QSs X (st :: sts) (tSeq tS uS) := ⟨pss_cons h1.out h2.out⟩
theorem x_ret (h : QE X e te) : QS X (.Return (some e) pos) (tRet te) := ⟨ps_ret h.out⟩
theorem x_ifS {l m : List Stmt} (hc : QT X c tA) (ha : QSs X l tS) (hb : QSs X m uS) : QS X (.If c l m pos) (mIfS tA tS uS) := ⟨qif hc.out ha.out hb.out⟩
theorem x_set (i : Nat) (hN : X.N.Nodup) (he : QE X e te) (hi : X.N[i]? = some x := by rfl) (hx : Loc X.env.scope x := by first | exact .inl rfl | exact .inr rfl)
    (hs : swapsWith e (some (.Name x p)) pos.line X.env = pure false := by rfl) (hf : X.fn x = true ∨ X.env.scope.names.lookup x = some .local := by first | exact .inl rfl | exact .inr rfl) : QS X (.Assign [.Name x p] e pos) (tAsg te (gName i)) := ⟨ps_set hN hi hx he.out hs hf⟩
theorem x_setComp (j : Nat) {tcn : TT} (hN : X.N.Nodup) (S : CompScope scope x ys) (hcap : Caps X scope ys is) (hi : QI X (.Name x px) iter wi)
    (hif : ∀ C s H fp, QIfs (cxComp X scope C (x :: ys) s H fp) ifs tcn) (he : ∀ C s H fp, QE (cxComp X scope C (x :: ys) s H fp) elt te) (hc : X.calm = true := by rfl)
    (hj : X.N[j]? = some y := by rfl) (hy : Loc X.env.scope y := by first | exact .inl rfl | exact .inr rfl)
    (hsw : swapsWith (.ListComp elt [⟨.Name x px, iter, ifs, 0⟩] scope pos) (some (.Name y py)) spos.line X.env = pure true := by rfl) (hf : X.fn y = true ∨ X.env.scope.names.lookup y = some .local := by first | exact .inl rfl | exact .inr rfl)
    (hs : ∀ x, foldedSetIterable iter X.env x = pure x := by intro _; rfl) : QS X (.Assign [.Name y py] (.ListComp elt [⟨.Name x px, iter, ifs, 0⟩] scope pos) spos) (tAsg (tComp is wi tcn te) (gName j)) :=
  ⟨ps_setComp hN hj hy hc S hcap hi.out (fun C s H fp => (hif C s H fp).out) (fun C s H fp => (he C s H fp).out) hsw hf hs⟩
theorem x_drop (h : QE X e te) (hs : swapsWith e none pos.line X.env = pure false := by rfl) : QS X (.Expr e pos) (tDrop te) := ⟨ps_expr h.out hs⟩
theorem x_for (i : Nat) (hN : X.N.Nodup) {body : List Stmt} (hi : QI X (.Name x px) iter wi) (hb : QSs X body tS) (hp : PassesOwn (model X.prog X.w) X.A X.env X.xe) (hc : X.calm = true := by rfl)
    (hj : X.N[i]? = some x := by rfl) (hx : Loc X.env.scope x := by first | exact .inl rfl | exact .inr rfl) (hf : X.fn x = true ∨ X.env.scope.names.lookup x = some .local := by first | exact .inl rfl | exact .inr rfl)
    (hs : ∀ x, foldedSetIterable iter X.env x = pure x := by intro _; rfl) : QS X (.For (.Name x px) iter body [] pos) (tFor wi (gName i) tS) := ⟨ps_for hp hc hi.out (pg_name hN hj hx hf) hb.out hs⟩
end
end L2
namespace L2
open PySem PySem.Spec PyProof.Rows
abbrev veM : List Value := [.type "ValueError", .type "Exception", .type "BaseException", .type "object"]
def ExcOk (K : PySem.W.Frag) (C : Addr) : Prop := PySem.W.excIn K C veM "ValueError.__new__" = true
structure Fly (P : Program) (w : World) (l : List Env) (H : Hp) (s : Shared) (cls fl : Value) (a : Addr) (H' : Hp) (s' : Shared) : Prop where
  os : s'.os = s.os
  bare : AllBare s'.gens
  un : Un (frs l) [] H H' s.heap s'.heap
  hok : HOk P w H' s'.heap
  new : s.heap.get? a = none
  free : H' a = none
  tr : ∃ oe vs a0 T oT ts, s'.heap.get? a = some oe ∧ oe.cls = cls ∧ oe.data = .fields vs ∧ vs[0]? = some a0 ∧ vs[1]? = some (.ref T) ∧ T ≠ a ∧ s'.heap.get? T = some oT ∧ oT.data = .fields ts ∧ ts[3]? = some fl ∧ s.heap.get? T = none ∧ H' T = none
def CX1 (P : Program) (w : World) : CXT := fun outer H s E e s' => ∃ a C H', e = .ref a ∧ Fly P w outer H s (.ref C) .none a H' s' ∧ E (.ref C) none H'

theorem obj_some {P : Program} {w : World} {H : Hp} {h : Heap} {a : Addr} {o : HO} (x : ObjOk P w H h a o) : ∃ u, h.get? a = some u := by
  cases o with
  | lst xs => obtain ⟨_, _, _, _, e⟩ := x; exact ⟨_, e⟩
  | tup xs => obtain ⟨_, _, _, p⟩ := x; obtain ⟨o, e, _⟩ := p; exact ⟨_, e⟩
  | dK kvs => obtain ⟨_, _, _, _, o, _, _, e, _⟩ := x; exact ⟨_, e⟩
  | dT kvs => obtain ⟨_, _, _, _, o, _, _, e, _⟩ := x; exact ⟨_, e⟩
  | set S n => obtain ⟨o, _, _, _, e, _⟩ := x; exact ⟨_, e⟩
  | ins C dx fs => obtain ⟨_, _, _, e, _⟩ := x; exact ⟨_, e⟩
  | own y => exact x
  | xd fs => obtain ⟨_, ⟨_, _, _, e, _⟩, _⟩ := x; exact ⟨_, e⟩
  | rng lo hi => obtain ⟨_, _, _, e⟩ := x; exact ⟨_, e⟩
  | frz ob u => obtain ⟨e, _⟩ := x; exact ⟨_, e⟩
  | tbl ps => exact ⟨_, (show h.get? a = some _ from x)⟩
  | met f y => exact ⟨_, (show h.get? a = some _ from x)⟩
  | ext φ => obtain ⟨_, e, _⟩ := x; exact e
section
variable {P : Program} {w : World} {l : List Env} {H H' : Hp} {s s' : Shared} {cls fl fl' : Value} {a : Addr} {base : Heap}
theorem Fly.frames (F : Fly P w l H s cls fl a H' s') (ff : s.heap.FunFrames base l) (frf : ∀ b ∈ frs l, H b = none) : s'.heap.FunFrames base l := by
  have all : ∀ (k : List Env), (∀ b ∈ frs k, b ∈ frs l) → s.heap.FunFrames base k → s'.heap.FunFrames base k := by
    intro k
    induction k with
    | nil => intro _ _; trivial
    | cons env r ih =>
      intro hs hl
      obtain ⟨hk, ⟨L, o, hf, hn, ho, hd⟩, hr⟩ := hl
      have hL : L ∈ frs l := hs L (by unfold frs; rw [List.filterMap_cons, hf]; exact List.mem_cons_self)
      obtain ⟨sl, e⟩ := F.un.slot L o ho (frf L hL) hL (by simp)
      exact ⟨hk, ⟨L, _, hf, hn, e, hd⟩, ih (fun b hb => hs b (by unfold frs; rw [List.filterMap_cons, hf]; exact List.mem_cons_of_mem _ hb)) hr⟩
  exact all l (fun _ hb => hb) ff
end
end L2
namespace L2
open PySem PySem.Spec PyProof.Rows
section
variable {X : Cx} {pins : List (Addr × Obj)} {σ : St} {H H' : Hp} {s s' : Shared} {cls fl : Value} {a : Addr}
theorem Fly.inv (I : Inv X pins σ H s) (F : Fly X.prog X.w X.stack H s cls fl a H' s') : Inv X pins σ H' s' := I.call' (ch := []) F.os F.un F.hok F.bare fun b z => absurd z (by simp)
theorem Fly.up (I : Inv X pins σ H s) (hex : X.ex = []) (F : Fly X.prog X.w X.stack H s cls fl a H' s') : Fly X.prog X.w X.outer X.H₀ X.s₀ cls fl a H' s' := by
  have I2 := F.inv I
  have back : ∀ b, s.heap.get? b = none → X.s₀.heap.get? b = none := fun b e => by
    cases q : X.s₀.heap.get? b with
    | none => rfl
    | some o =>
      obtain ⟨o', e'⟩ := I.base.there b o q (by rw [hex]; simp)
      rw [e] at e'; cases e'
  obtain ⟨oe, vs, a0, T, oT, ts, h1, h2, h3, h4, h5, h6, h7, h8, h9, h10, h11⟩ := F.tr
  have b := I2.base
  rw [hex] at b
  exact ⟨I2.os, I2.bare, b, I2.hok, back a F.new, F.free, oe, vs, a0, T, oT, ts, h1, h2, h3, h4, h5, h6, h7, h8, h9, back T h10, h11⟩
end

def PassS (CX : CXT) (X : Cx) (E : St → XK) : Prop := ∀ (pins : List (Addr × Obj)) (σ : St) (H : Hp) (s : Shared) (e : Value) (s' : Shared), Inv X pins σ H s → CX X.stack H s (E σ) e s' → X.xe e s'
theorem passF {P : Program} {w : World} {X : Cx} : PassS (CX1 P w) X (fun _ => E0) := fun pins σ H s e s' I ⟨_, _, _, _, _, h⟩ => h.elim

section
variable {P : Program} {w : World} {K : PySem.W.Frag} {mg : Str → Option Value} {base : Heap} {N : List Str} {qual : Str} {scope : Scope} {f : Addr} {cd : Value} {A : Around} {outer : List Env} {s : Shared} {H : Hp} {E : XK}
end

def tCallX (sp : Sp) (E : St → XK) (t : TA) : TE := fun σ H Q => t σ H fun vs H1 => sp vs H1 Q (E σ)
section
variable {X : Cx} {CX : CXT} {k : Nat} {f : Addr} {fd : FuncData} {ps : List Str} {sp : Sp} {E : St → XK} {x : Str} {p pos : Pos} {e : Expr} {es : List Expr} {t : TA}
theorem run_fnX {pins : List (Addr × Obj)} {σ : St} {H : Hp} {s : Shared} {Q : VK} {us : List Value} {vs : List V} (F : FnOk X.prog X.w X.K X.mg X.base CX k f fd ps sp) (hr : Room k X.A) (hb : Binds X.K fd ps []) (hx : PassS CX X E)
    (I : Inv X pins σ H s) (r : Vals vs us) (h : sp vs H Q (E σ)) : wpAny (model X.prog X.w) X.A (call (.ref f) us) (EP X pins σ Q) X.xe s := by
  have hl : us.length = ps.length := by rw [← r.length]; exact F.len _ _ _ _ h
  have hb' := hb s us I.kIn (by rw [List.append_nil]; exact hl)
  rw [List.append_nil] at hb'
  refine wpAny_call (codeAny_mono (F.run X.A X.stack s H ⟨us, []⟩ us vs Q (E σ) hr I.env0 hb' r h) fun r s' hq => ?_)
  cases r with
  | error e => exact hx pins σ H s e s' I hq
  | ok fl =>
    cases fl with
    | ret u => exact I.after hq
    | next => exact False.elim hq
    | brk => exact False.elim hq
    | cont => exact False.elim hq
theorem x_callX (F : FnOk X.prog X.w X.K X.mg X.base CX k f fd ps sp) (hr : Room k X.A) (hm : X.mg x = some (.ref f)) (hk : PySem.W.keepIn X.K (.ref f) = true) (hb : Binds X.K fd ps []) (hx : PassS CX X E)
    (ha : QA X (e :: es) t) (hg : Gl X x := by rfl) (hdb : (x == ("__debug__" : Str)) = false := by decide) (hs : noStars (e :: es) = true := by rfl) : QE X (.Call (.Name x p) (e :: es) [] pos) (tCallX sp E t) := by
  refine ⟨fun pins s σ H Q I h => ?_⟩
  have h' : (notStar e && noStars es) = true := hs
  refine wpAny_Call_Name_kw (ld_glob I hg hm ?_ hdb)
  refine PySem.W.callWith_K (h₀ := X.base) I.ok.mod.kin hk (thn (ha.out pos pins s σ H _ I h) fun us s1 ⟨vs, H1, I1, r, q⟩ => ⟨I1.kIn, ?_⟩) (starEach_plain (Bool.and_eq_true_iff.mp h').1 es X.env) (noStars_any (Bool.and_eq_true_iff.mp h').2)
  exact run_fnX F hr hb hx I1 r q
end
end L2
namespace L2
open PySem PySem.Spec PyProof.Rows
def excO (C a : Addr) : HO := .ext fun h => ∃ o vs, h.get? a = some o ∧ o.cls = .ref C ∧ o.data = .fields vs
section
variable {X : Cx} {pins : List (Addr × Obj)} {σ : St} {H H1 H' : Hp} {s s0 : Shared} {a : Addr} {o : HO}
end
def cxH (X : Cx) (a : Addr) : Cx := { X with A := X.A.mark (some (.ref a)), calm := false, xe := fun _ _ => False }
section
variable {X : Cx} {pins : List (Addr × Obj)} {σ : St} {H : Hp} {s : Shared} {a : Addr}
theorem Cx.Ok.toH (ok : X.Ok) : (cxH X a).Ok := ⟨ok.mod, ok.kind, ok.glob, ok.blt, ok.above, ok.inj, ok.has, ok.cab, fun h => absurd (show false = true from h) Bool.false_ne_true, ok.frames, ok.stk, ok.exf, ok.bs, ok.bsz, ok.noex, ok.exfs, ok.funs, ok.frf⟩
theorem Inv.toH (I : Inv X pins σ H s) : Inv (cxH X a) pins σ H s := ⟨I.ok.toH, I.os, I.bare, I.base, I.loc, I.cell, I.free, I.freeC, I.pin, I.hok, I.len⟩
theorem Inv.ofH (ok : X.Ok) (I : Inv (cxH X a) pins σ H s) : Inv X pins σ H s := ⟨ok, I.os, I.bare, I.base, I.loc, I.cell, I.free, I.freeC, I.pin, I.hok, I.len⟩
theorem SP.ofH {D : Ends} {f : Flow} (ok : X.Ok) (h : SP (cxH X a) pins D f s) : SP X pins D f s := by
  cases f with
  | next => obtain ⟨σ', H', J, q⟩ := h; exact ⟨σ', H', J.ofH ok, q⟩
  | brk => obtain ⟨σ', H', J, q⟩ := h; exact ⟨σ', H', J.ofH ok, q⟩
  | cont => obtain ⟨σ', H', J, q⟩ := h; exact ⟨σ', H', J.ofH ok, q⟩
  | ret u => obtain ⟨v, σ', H', J, r, q⟩ := h; exact ⟨v, σ', H', J.ofH ok, r, q⟩
end
abbrev TH := Ends → St → Addr → Hp → Prop
def PH (X : Cx) (hs : List ExceptHandler) (t : TH) : Prop := ∀ (pins : List (Addr × Obj)) (s0 : Shared) (σ : St) (H1 H' : Hp) (C a : Addr) (s3 : Shared) (D : Ends), X.stack = X.env :: X.outer → X.env.frame = some X.env.locals → X.ex = [] →
  Inv X pins σ H1 s0 → Fly X.prog X.w X.stack H1 s0 (.ref C) .none a H' s3 → ExcOk X.K C → t D σ C H' → wpAny (model X.prog X.w) X.A (handleBy (.ref a) X.env hs) (SP X pins D) X.xe s3
structure QH (X : Cx) (hs : List ExceptHandler) (t : TH) : Prop where
  out : PH X hs t
section
variable {X : Cx}
variable {x n : Str} {np hp : Pos} {Dc : Addr} {b0 : Stmt} {suite : List Stmt} {rest : List ExceptHandler} {ts : TS} {r : TH} {i : Nat}
end
end L2
namespace L2
open PySem PySem.Spec PyProof.Rows
abbrev cxT (X : Cx) (pn : List (Addr × Obj)) (E' : Value → Shared → Prop) : Cx := { X with pn := pn, xe := E' }
section
variable {X : Cx} {pins pn : List (Addr × Obj)} {σ : St} {H : Hp} {s : Shared} {E' : Value → Shared → Prop}
theorem Cx.Ok.toT (ok : X.Ok) : (cxT X pn E').Ok := ⟨ok.mod, ok.kind, ok.glob, ok.blt, ok.above, ok.inj, ok.has, ok.cab, ok.hd, ok.frames, ok.stk, ok.exf, ok.bs, ok.bsz, ok.noex, ok.exfs, ok.funs, ok.frf⟩
theorem Inv.toT (I : Inv X pins σ H s) : Inv (cxT X (X.pn ++ pins) E') [] σ H s := ⟨I.ok.toT, I.os, I.bare, I.base, I.loc, I.cell, I.free, I.freeC, fun p hp => I.pin p (by
  have hp : p ∈ (X.pn ++ pins) ++ [] := hp
  rwa [List.append_nil] at hp), I.hok, I.len⟩
end
section
variable {X : Cx}
end
end L2
namespace L2
open PySem PySem.Spec PyProof.Rows
structure ExcGet (K : PySem.W.Frag) (C : Addr) : Prop where
  ga : PySem.W.findIn K (.ref C) "__getattribute__" = some (some (.builtin "BaseException.__getattribute__"))
  na : PySem.W.findIn K (.ref C) "__getattr__" = some none
  cl : PySem.W.findIn K (.ref C) "__class__" = some (some (.builtin "object.__class__"))
  mo : PySem.W.mroIn K C (.type "object") = some true
  mb : PySem.W.mroIn K C (.type "BaseException") = some true
section
variable {K : PySem.W.Frag} {prog : Program} {w : World} {A : Around} {E : Value → Shared → Prop} {h : Heap} {g : Array GenState} {d : Drawn} {t : Nat} {os : OsState} {a C : Addr} {o : Obj}
end
section
variable {X : Cx}
def kIsiE (K : PySem.W.Frag) : List V → Hp → VK → Prop := fun xs H Q => ∃ a C b c cv, xs = [.ref a, c] ∧ H a = some (excO C a) ∧ ExcOk K C ∧ ExcGet K C ∧ RelV c cv ∧ (∀ u, RelV c u → u = cv) ∧ PySem.W.kitOne K (.ref C) cv = some b ∧ Q (.bl b) H
theorem kIsiE.own {K : PySem.W.Frag} {H : Hp} {Q : VK} {a C D : Addr} {b : Bool} (ha : H a = some (excO C a)) (hC : ExcOk K C) (G : ExcGet K C) (hk : PySem.W.kitOne K (.ref C) (.ref D) = some b) (q : Q (.bl b) H) : kIsiE K [.ref a, .ref D] H Q :=
  ⟨a, C, b, .ref D, .ref D, rfl, ha, hC, G, rfl, fun u e => e, hk, q⟩
theorem kIsiE.ty {K : PySem.W.Frag} {H : Hp} {Q : VK} {a C : Addr} {T : String} {b : Bool} (ha : H a = some (excO C a)) (hC : ExcOk K C) (G : ExcGet K C) (hk : PySem.W.kitOne K (.ref C) (.type T) = some b) (q : Q (.bl b) H) : kIsiE K [.ref a, .ty T] H Q :=
  ⟨a, C, b, .ty T, .type T, rfl, ha, hC, G, rfl, fun u e => e, hk, q⟩
end
end L2
namespace HT
open PySem PyProof.Rows
section
variable {prog : Program} {w : World} {A : Around} {E : Value → Shared → Prop} {s : Shared}
theorem getItem_tuple_whole {t sl : Addr} {items : Array Value} {vl vu : Value} {lo hi : Option Int} {Q : Value → Shared → Prop} (ht : IsTup s.heap t items) (hs : s.heap.IsSliceOf sl vl vu .none) (pl : IsPart vl lo) (pu : IsPart vu hi)
    (hw : sIx items.size 0 lo = 0 ∧ sIx items.size items.size hi = items.size) (h : Q (.ref t) s) : wpAny (model prog w) A (getItem (.ref t) (.ref sl)) Q E s := by
  obtain ⟨os, hos, hcs, hds⟩ := id hs
  have hTs : s.TypeIs (.ref sl) "slice" := ⟨os, hos, hcs⟩
  unfold getItem
  try with_reducible refine wpAny_holding ?_
  first | refine wpAny_bind (wpAny_pure ?_) | skip
  refine wpAny_bind (wpAny_sequenceKey ht.typeIs (by decide) ?_)
  refine wpAny_bind (wpAny_callSpecial?_slot (name := Str.ofString "__getitem__") ht.typeIs PyProof.Rows.slot_tuple_getitem
    (wpAny_call_entry PyProof.Rows.slot_tuple_getitem ht.typeIs entry_tuple_getitem ?_ (args_tuple_getitem _ _)))
  show wpAny _ _ (Builtin.Tuple.tupleItemsOf (.ref t) >>= _) _ _ s
  refine wpAny_bind (tupleItemsOf_ ht ?_)
  refine wpAny_bind (wpAny_typeOf hTs ?_)
  rw [if_pos (by decide)]
  refine wpAny_bind (sliceApplied_gen hs pl pu ?_)
  have hyes : (((sIx items.size 0 lo : Nat) : Int) == 0 && (1 : Int) == 1 && (sIx items.size items.size hi - sIx items.size 0 lo) == items.size) = true := by
    rw [hw.1, hw.2]; simp
  show wpAny _ _ (if (((sIx items.size 0 lo : Nat) : Int) == 0 && (1 : Int) == 1 && (sIx items.size items.size hi - sIx items.size 0 lo) == items.size) = true then _ else _) _ _ s
  rw [if_pos hyes]
  have hte : s.TypeIs (.ref t) "tuple" := ht.typeIs
  unfold Builtin.Tuple.tupleIsExact
  repeat (first | exact ⟨_, rfl, wpAny_pure h⟩ | (with_reducible refine wpAny_typeOf hte ?_) | wp_step)
end
end HT
namespace HT
open PySem PyProof.Rows
section
variable {prog : Program} {w : World} {A : Around} {E : Value → Shared → Prop} {s : Shared}
theorem cat_tup0 {t b : Addr} {ws : List Value} {Q : Value → Shared → Prop} (ht : IsTup s.heap t #[]) (hb : IsTup s.heap b ws.toArray) (h1 : Q (.ref b) s) : wpAny (model prog w) A (binaryOp .Add (.ref t) (.ref b)) Q E s := by
  obtain ⟨⟨cls, dd, data, sl⟩, ho, hc, n, hd⟩ := id ht
  obtain ⟨⟨cls2, dd2, data2, sl2⟩, ho2, hc2, n2, hd2⟩ := id hb
  simp only at hc hd hc2 hd2
  subst hc hd hc2 hd2
  exact concat_meets ⟨_, ho, rfl⟩ ⟨_, ho2, rfl⟩ noFill_tuple_add seq_tuple_add PySem.F.slot_tuple_add PySem.F.entry_tuple_add (PySem.F.args_tuple_add_2 _ _)
      (tuple_addW0 t b #[] ws.toArray n n2 dd dd2 sl sl2 (by simp)) ⟨ho, ho2, h1⟩
end
end HT
namespace L2
open PySem PySem.Spec PyProof.Rows
theorem Same.rfl' {H : Hp} : Same H H := fun _ _ e => e
theorem cutV_whole {xs : List V} {lo hi : Option Int} (h : HT.sIx xs.length 0 lo = 0 ∧ HT.sIx xs.length xs.length hi = xs.length) : cutV xs lo hi = xs := by
  unfold cutV
  rw [h.1, h.2, List.drop_zero, Nat.sub_zero, List.take_length]
section
variable {X : Cx}
def rSlTG : V → Option Int → Option Int → Hp → VK → Prop := fun x lo hi H Q => ∃ a xs, x = .ref a ∧ H a = some (.tup xs) ∧ ∀ p H', Same H H' → H' p = some (.tup (cutV xs lo hi)) → Q (.ref p) H'
theorem sl_tupG : SlR X rSlTG := by
  intro pins s σ H x v vl vu lo hi sl Q I rx hs pl pu h
  obtain ⟨a, xs, rfl, hx, q⟩ := h
  have hq : SqT X.K H a xs := .inl (.inl hx)
  by_cases hw : HT.sIx xs.length 0 lo = 0 ∧ HT.sIx xs.length xs.length hi = xs.length
  · cases rx
    obtain ⟨its, r, ht, hz⟩ := I.tuple hq
    have hlen : its.toArray.size = xs.length := by rw [List.size_toArray]; exact r.length.symm
    refine ⟨"tuple", _, PyProof.Rows.slot_tuple_getitem.lookup, ht.typeIs, ?_⟩
    refine HT.getItem_tuple_whole ht hs pl pu (by rw [hlen]; exact hw) ?_
    exact ⟨.ref a, H, I, rfl, q a H Same.rfl' (by rw [cutV_whole hw]; exact hx)⟩
  · exact sl_tup pins s σ H _ v vl vu lo hi sl Q I rx hs pl pu ⟨a, xs, rfl, hq, hw, fun p hp => q p _ (Same.upd hp) (upd_same ..)⟩
def rCatG : R2 := fun x y H Q => ∃ a b xs ys, x = .ref a ∧ y = .ref b ∧ H a = some (.tup xs) ∧ H b = some (.tup ys) ∧ xs.length + ys.length ≤ sizeLine ∧ ∀ p H', Same H H' → H' p = some (.tup (xs ++ ys)) → Q (.ref p) H'
theorem op_catG : OpR X (binaryOp .Add) rCatG := by
  intro pins s σ H x y v u Q I rx ry h
  obtain ⟨a, b, xs, ys, rfl, rfl, ha, hb, hz, q⟩ := h
  by_cases hx : xs = []
  · subst hx
    cases rx
    cases ry
    obtain ⟨its, r1, p1, _⟩ := I.tuple (.inl (.inl ha))
    obtain ⟨its2, r2, p2, _⟩ := I.tuple (.inl (.inl hb))
    cases r1
    exact HT.cat_tup0 p1 p2 ⟨.ref b, H, I, rfl, q b H Same.rfl' hb⟩
  · refine op_catT pins s σ H _ _ v u Q I rx ry ⟨a, b, xs, ys, rfl, rfl, .inl (.inl ha), .inl (.inl hb), hx, hz, fun e => ?_, fun _ p hp => q p _ (Same.upd hp) (upd_same ..)⟩
    subst e
    exact q a H Same.rfl' (by rw [List.append_nil]; exact ha)
def mAddG (K : PySem.W.Frag) : R2 := fun x y H Q => match x, y with
  | .int i, .int j => Q (.int (i + j)) H
  | .str i, .str j => i.length + j.length ≤ sizeLine ∧ Q (.str (i ++ j)) H
  | .ref a, .ref b => rCat (.ref a) (.ref b) H Q ∨ rCatG (.ref a) (.ref b) H Q
  | _, _ => False
theorem oAddG : OpR X (binaryOp .Add) (mAddG X.K) := (op_add.or (op_add_str.or (op_cat.or op_catG))).imp fun x y H Q q => by
  unfold mAddG at q
  split at q
  · exact .inl ⟨_, _, rfl, rfl, q⟩
  · exact .inr (.inl ⟨_, _, rfl, rfl, q.1, q.2⟩)
  · exact .inr (.inr q)
  · exact q.elim
def rSlG (K : PySem.W.Frag) : V → Option Int → Option Int → Hp → VK → Prop := fun x lo hi H Q => rSlL K x lo hi H Q ∨ rSlTG x lo hi H Q
theorem sl_any : SlR X (rSlG X.K) := sl_list.or sl_tupG
inductive QJ (X : Cx) : List Expr → List TE → Prop where
  | nil : QJ X [] []
  | cons {e : Expr} {t : TE} {es : List Expr} {ts : List TE} : QE X e t → QJ X es ts → QJ X (e :: es) (t :: ts)
end
end L2
namespace L2
open PySem PySem.Spec PyProof.Rows
theorem Fun.okN {P : Program} {w : World} {K : PySem.W.Frag} {mg : Str → Option Value} {base : Heap} {CX : CXT} {x qual : Str} {st : Stmt} {f : Addr} {fd : FuncData} {N ps : List Str} {k : Nat} {sp : Sp} (F : Fun K x qual st f fd) (S : FnScope N ps (defScope st)) (len : ∀ vs H Q E, sp vs H Q E → vs.length = ps.length)
    (hbody : ∀ (cdv : Value) (A : Around) (outer : List Env) (s : Shared) (H : Hp) (vs : List V) (Q : VK) (E : XK), Room k (A.deeper (envOfC qual (defScope st) s.heap.objs.size f cdv)) → sp vs H Q E →
      ∃ t, PSs (cxOf CX P w K mg base N qual (defScope st) f cdv A outer s H E).nox (defBody st) t ∧ t { nx := fun _ H' => Q .non H', rt := Q } (start N vs) H) : FnOk P w K mg base CX (k + 1) f fd ps sp := by
  obtain ⟨oc, od, kV, doc, pm, an, cdv, ct, osl, rfl, lk, hcd⟩ := F.ex
  refine fn_of lk hcd S len fun A outer s H vs Q E hr hsp => ?_
  obtain ⟨t, h, q⟩ := hbody cdv A outer s H vs Q E hr hsp
  exact ⟨t, h.nox, q⟩
end L2
namespace L2
open PySem PySem.Spec PyProof.Rows
section
variable {X : Cx}
def rSlS : V → Option Int → Option Int → Hp → VK → Prop := fun x lo hi H Q => ∃ z, x = .str z ∧ z.length ≤ sizeLine ∧ Q (.str (Txt.slice z lo hi)) H
theorem sl_str : SlR X rSlS := by
  intro pins s σ H x v vl vu lo hi sl Q I rx hs pl pu h
  obtain ⟨z, rfl, hz, q⟩ := h
  obtain ⟨t, rfl⟩ := (show ∃ t, v = Value.str z t from rx)
  refine ⟨"str", _, F.slot_str_getitem.lookup, typeIs_str _ _ _, ?_⟩
  have fin : ∀ (l u : Option (Int × Tok)), l.map (·.1) = lo → u.map (·.1) = hi → s.heap.IsSlice sl l u none → wpAny (model X.prog X.w) X.A (getItem (.str z t) (.ref sl)) (EP X pins σ Q) X.xe s := fun l u e1 e2 hs' => by
    subst e1 e2
    refine wpAny_getItem_str_slice (l := l) (u := u) (st := none) hs' rfl (post_val_or_str ⟨Nat.le_trans (Txt.slice_le z _ _) hz, fun t' k => ⟨.str _, H, I.tok k, ⟨_, rfl⟩, q⟩⟩)
  obtain ⟨os, hos, hcs, hds⟩ := hs
  cases pl with
  | none => cases pu with
    | none => exact fin none none rfl rfl ⟨os, hos, hcs, hds⟩
    | int j tj => exact fin none (some (j, tj)) rfl rfl ⟨os, hos, hcs, hds⟩
  | int i ti => cases pu with
    | none => exact fin (some (i, ti)) none rfl rfl ⟨os, hos, hcs, hds⟩
    | int j tj => exact fin (some (i, ti)) (some (j, tj)) rfl rfl ⟨os, hos, hcs, hds⟩
def rSlA (K : PySem.W.Frag) : V → Option Int → Option Int → Hp → VK → Prop := fun x lo hi H Q => rSlG K x lo hi H Q ∨ rSlS x lo hi H Q
theorem sl_all : SlR X (rSlA X.K) := sl_any.or sl_str
def plainP : V → Bool
  | .int _ => true
  | .str _ => true
  | _ => false
theorem eqAt_plain {A : Around} {s : Shared} {x y : V} {u v : Value} (rx : RelV x u) (ry : RelV y v) (hx : plainP x = true) (hy : plainP y = true) : PySem.SeqAt.EqAt A s u v (decide (x = y)) := by
  cases x <;> first | cases hx | skip
  all_goals (cases y <;> first | cases hy | skip)
  · obtain ⟨t, rfl⟩ := rx; obtain ⟨t', rfl⟩ := ry
    have e := PySem.SeqAt.EqAt.int_int (A := A) (s := s) ‹Int› t ‹Int› t'
    rename_i i j
    have e2 : decide (V.int i = V.int j) = (i == j) := by rw [decV (f := V.int) fun _ _ e => V.int.inj e]; rfl
    rw [e2]; exact PySem.SeqAt.EqAt.int_int i t j t'
  · obtain ⟨t, rfl⟩ := rx; obtain ⟨t', rfl⟩ := ry
    exact PySem.SeqAt.EqAt.int_str _ _ _ _
  · obtain ⟨t, rfl⟩ := rx; obtain ⟨t', rfl⟩ := ry
    exact PySem.SeqAt.EqAt.str_int _ _ _ _
  · obtain ⟨t, rfl⟩ := rx; obtain ⟨t', rfl⟩ := ry
    rename_i i j
    have e2 : decide (V.str i = V.str j) = (i == j) := by
      rw [decV (f := V.str) fun _ _ e => V.str.inj e]
      by_cases h : i = j
      · rw [h]; simp
      · rw [decide_eq_false h]; exact (beq_eq_false_iff_ne.mpr h).symm
    rw [e2]; exact PySem.SeqAt.EqAt.str_str i t j t'
theorem eq_by_get {xs ys : List V} : decide (xs = ys) = ((List.range (min xs.length ys.length)).all (fun j => decide (xs[j]? = ys[j]?)) && xs.length == ys.length) := by
  by_cases h : xs = ys
  · subst h; simp
  · rw [decide_eq_false h]
    by_cases hl : xs.length = ys.length
    · rw [hl, Nat.min_self, beq_self_eq_true, Bool.and_true]
      symm
      rw [List.all_eq_false]
      apply Classical.byContradiction
      intro hn
      apply h
      apply List.ext_getElem? fun i => ?_
      by_cases hi : i < ys.length
      · apply Classical.byContradiction
        intro hne
        exact hn ⟨i, List.mem_range.mpr hi, by simpa using hne⟩
      · rw [List.getElem?_eq_none (by omega), List.getElem?_eq_none (by omega)]
    · have : (xs.length == ys.length) = false := by simpa using hl
      rw [this, Bool.and_false]
def rEqT (K : PySem.W.Frag) : R2 := fun x y H Q => ∃ a b xs ys, x = .ref a ∧ y = .ref b ∧ SqT K H a xs ∧ SqT K H b ys ∧ xs.all plainP = true ∧ ys.all plainP = true ∧ Q (.bl (decide (xs = ys))) H
theorem op_eqT (hu : X.A.units < cLine) : OpR X (compareOp .Eq) (rEqT X.K) := by
  intro pins s σ H x y v u Q I rx ry h
  obtain ⟨a, b, xs, ys, rfl, rfl, ha, hb, px, py, q⟩ := h
  cases rx
  cases ry
  obtain ⟨its, r1, p1, _⟩ := I.tuple ha
  obtain ⟨its2, r2, p2, _⟩ := I.tuple hb
  have l1 := r1.length
  have l2 := r2.length
  refine PySem.SeqAt.eq_tupleAt (e := fun j => decide (xs[j]? = ys[j]?)) p1 p2 hu (fun j h1 h2 => ?_) ?_
  · have h1 : j < its.length := by simpa using h1
    have h2 : j < its2.length := by simpa using h2
    have e1 : xs[j]? = some xs[j] := List.getElem?_eq_getElem (by omega)
    have e2 : ys[j]? = some ys[j] := List.getElem?_eq_getElem (by omega)
    obtain ⟨u1, g1, ru1⟩ := r1.get e1
    obtain ⟨u2, g2, ru2⟩ := r2.get e2
    have g1' : its.toArray[j] = u1 := by
      rw [List.getElem?_eq_getElem h1] at g1; simpa using Option.some.inj g1
    have g2' : its2.toArray[j] = u2 := by
      rw [List.getElem?_eq_getElem h2] at g2; simpa using Option.some.inj g2
    rw [g1', g2', e1, e2]
    have : decide (some xs[j] = some ys[j]) = decide (xs[j] = ys[j]) := by simp
    rw [this]
    exact eqAt_plain ru1 ru2 (List.all_eq_true.mp px _ (List.getElem_mem _)) (List.all_eq_true.mp py _ (List.getElem_mem _))
  · have e := eq_by_get (xs := xs) (ys := ys)
    rw [l1, l2] at e
    simp only [List.size_toArray]
    rw [← e]
    exact ⟨.bl _, H, I, rfl, q⟩
end
end L2
namespace HT
open PySem PyProof.Rows
section
variable {prog : Program} {w : World} {A : Around} {E : Value → Shared → Prop} {s : Shared}
structure ZipAt (h : Heap) (z TI TO i1 i2 t1 t2 : Addr) (xs ys : Array Value) (f0 : Value) (k : Nat) : Prop where
  z : IsZip h z TI TO f0
  ti : IsPair h TI (.ref i1) (.ref i2)
  to : ∃ a b, IsPair h TO a b
  j1 : h.IsTupleIter i1 t1 k
  j2 : h.IsTupleIter i2 t2 k
end
end HT
namespace HT
open PySem PyProof.Rows
section
variable {prog : Program} {w : World} {A : Around} {E : Value → Shared → Prop} {s : Shared}
end
end HT
namespace L2
open PySem PySem.Spec PyProof.Rows
section
variable {X : Cx} {pins : List (Addr × Obj)} {σ : St} {H : Hp} {s : Shared} {h' : Heap}
end
section
variable {X : Cx} {pins : List (Addr × Obj)} {σ : St} {H H1 : Hp} {s s0 : Shared} {a : Addr} {o : HO}
end
end L2
namespace L2
open PySem PySem.Spec PyProof.Rows
section
variable {X : Cx} {a b : Expr} {t : TA} {p pos ep : Pos} {elts : List Expr} {ek : Nat}
end
end L2
namespace L2
open PySem PySem.Spec PyProof.Rows
section
variable {X : Cx} {a b : Expr} {t : TA} {p pos ep px py : Pos} {elts : List Expr} {ek : Nat} {x y : Str} {iter : Expr} {wi : TI} {tS : TS}
end
end L2
namespace L2
open PySem PySem.Spec PyProof.Rows
section
variable {X : Cx} {CX : CXT} {k : Nat} {f C : Addr} {fd : FuncData} {ps : List Str} {sp : Sp} {E : St → XK} {x m fl : Str} {p pos apos pos' : Pos} {e o value : Expr} {es : List Expr} {ta tv to : TE} {t : TA}
end
end L2
namespace L2
open PySem PySem.Spec PyProof.Rows
mutual
inductive DatV (K : PySem.W.Frag) (H : Hp) : V → PyData → Prop
  | non : DatV K H .non .none
  | bl (b) : DatV K H (.bl b) (.bool b)
  | int (i) : DatV K H (.int i) (.int i)
  | str (z) : DatV K H (.str z) (.str z)
  | lst {a xs ds} : SqL K H a xs → DatVs K H xs ds → DatV K H (.ref a) (.list ds)
  | tup {a xs ds} : SqT K H a xs → DatVs K H xs ds → DatV K H (.ref a) (.tuple ds)
inductive DatVs (K : PySem.W.Frag) (H : Hp) : List V → List PyData → Prop
  | nil : DatVs K H [] []
  | cons {x xs d ds} : DatV K H x d → DatVs K H xs ds → DatVs K H (x :: xs) (d :: ds)
end
section
variable {X : Cx}
mutual
theorem datV_reads {pins : List (Addr × Obj)} {σ : St} {H : Hp} {s : Shared} (I : Inv X pins σ H s) : ∀ {x : V} {d : PyData}, DatV X.K H x d → ∀ {v : Value}, RelV x v → ∃ as, Reads s.heap v d as
  | _, _, .non, _, r => by cases r; exact ⟨_, .none⟩
  | _, _, .bl b, _, r => by cases r; exact ⟨_, .bool b⟩
  | _, _, .int i, _, r => by obtain ⟨t, rfl⟩ := r; exact ⟨_, .int i t⟩
  | _, _, .str z, _, r => by obtain ⟨t, rfl⟩ := r; exact ⟨_, .str z t⟩
  | _, _, .lst h hs, _, r => by
    cases r
    obtain ⟨its, r1, ⟨o, n, h1, h2, _, h3⟩, _⟩ := I.list h
    obtain ⟨as, ra⟩ := datVs_reads I hs r1
    exact ⟨_, .list h1 h2 h3 (by simpa using ra)⟩
  | _, _, .tup h hs, _, r => by
    cases r
    obtain ⟨its, r1, ⟨o, h1, h2, n, h3⟩, _⟩ := I.tuple h
    obtain ⟨as, ra⟩ := datVs_reads I hs r1
    exact ⟨_, .tuple h1 h2 h3 (by simpa using ra)⟩
theorem datVs_reads {pins : List (Addr × Obj)} {σ : St} {H : Hp} {s : Shared} (I : Inv X pins σ H s) : ∀ {xs : List V} {ds : List PyData}, DatVs X.K H xs ds → ∀ {vs : List Value}, Vals xs vs → ∃ as, ReadsAll s.heap vs ds as
  | _, _, .nil, _, r => by cases r; exact ⟨_, .nil⟩
  | _, _, .cons h hs, _, r => by
    cases r with
    | cons r1 r2 =>
      obtain ⟨as, a⟩ := datV_reads I h r1
      obtain ⟨bs, b⟩ := datVs_reads I hs r2
      exact ⟨_, .cons a b⟩
end
def rEqD (K : PySem.W.Frag) : R2 := fun x y H Q => ∃ d e, DatV K H x d ∧ DatV K H y e ∧ d.canLay0 = true ∧ e.canLay0 = true ∧ d.depth ≤ 150 ∧ Q (.bl (d.eqv e)) H
def rNeD (K : PySem.W.Frag) : R2 := fun x y H Q => ∃ d e, DatV K H x d ∧ DatV K H y e ∧ d.canLay0 = true ∧ e.canLay0 = true ∧ d.depth ≤ 150 ∧ Q (.bl (!d.eqv e)) H
theorem op_eqD (hu : X.A.units + 150 < cLine) : OpR X (compareOp .Eq) (rEqD X.K) := by
  intro pins s σ H x y v u Q I rx ry h
  obtain ⟨d, e, hd, he, cd, ce, dp, q⟩ := h
  obtain ⟨as, ra⟩ := datV_reads I hd rx
  obtain ⟨bs, rb⟩ := datV_reads I he ry
  exact PySem.SeqAt.compareEq_reads ra rb cd ce (by have := Nat.min_le_left d.depth e.depth; omega) ⟨.bl _, H, I, rfl, q⟩
theorem op_neD (hu : X.A.units + 150 < cLine) : OpR X (compareOp .NotEq) (rNeD X.K) := by
  intro pins s σ H x y v u Q I rx ry h
  obtain ⟨d, e, hd, he, cd, ce, dp, q⟩ := h
  obtain ⟨as, ra⟩ := datV_reads I hd rx
  obtain ⟨bs, rb⟩ := datV_reads I he ry
  exact PySem.SeqAt.compareNe_reads ra rb cd ce (by have := Nat.min_le_left d.depth e.depth; omega) ⟨.bl _, H, I, rfl, q⟩
theorem Room.units150 {k : Nat} {A : Around} (r : Room k A) : A.units + 150 < cLine := by have := r.un; omega
def mEqB (K : PySem.W.Frag) : R2 := fun x y H Q => match x, y with
  | .ref a, .ref b => rEqT K (.ref a) (.ref b) H Q ∨ rEqD K (.ref a) (.ref b) H Q
  | .ref a, y => rEqD K (.ref a) y H Q
  | x, .ref b => rEqD K x (.ref b) H Q
  | x, y => mEq x y H Q
theorem oEqB (hu : X.A.units + 150 < cLine) : OpR X (compareOp .Eq) (mEqB X.K) := ((op_eqT (by omega)).or ((op_eqD hu).or oEq)).imp fun x y H Q q => by
  unfold mEqB at q
  split at q
  · exact q.elim .inl fun z => .inr (.inl z)
  · exact .inr (.inl q)
  · exact .inr (.inl q)
  · exact .inr (.inr q)
def mNeB (K : PySem.W.Frag) : R2 := fun x y H Q => match x, y with
  | .ref a, y => rNeD K (.ref a) y H Q
  | x, .ref b => rNeD K x (.ref b) H Q
  | x, y => mNe x y H Q
theorem oNeB (hu : X.A.units + 150 < cLine) : OpR X (compareOp .NotEq) (mNeB X.K) := ((op_neD hu).or oNe).imp fun x y H Q q => by
  unfold mNeB at q
  split at q
  · exact .inl q
  · exact .inl q
  · exact .inr q
variable {o : Expr} {to : TE} {name : Str} {apos cpos : Pos} {T id : String} {rm : V → List V → Hp → VK → Prop}
end
end L2
namespace L2
open PySem PySem.Spec PyProof.Rows
theorem line_ge {n : Nat} (h : n ≤ 1000000) : n ≤ sizeLine := by rw [sizeLine_eq]; omega
theorem cutV_ints (ns : List Int) (lo hi : Option Int) : ∃ zs : List Int, cutV (ns.map V.int) lo hi = zs.map V.int ∧ zs.length ≤ ns.length := by
  refine ⟨(ns.drop (HT.sIx ns.length 0 lo)).take (HT.sIx ns.length ns.length hi - HT.sIx ns.length 0 lo), ?_, ?_⟩
  · unfold cutV
    rw [List.length_map, List.map_take, List.map_drop]
  · rw [List.length_take, List.length_drop]; omega
theorem atI_ex {α : Type} {xs : List α} {i : Int} (h0 : 0 ≤ i) (h1 : i < xs.length) : ∃ c, atI xs i = some c := by
  unfold atI ixN
  rw [if_pos h0, if_pos h1]
  have : i.toNat < xs.length := by omega
  exact ⟨xs[i.toNat], by show xs[i.toNat]? = _; rw [List.getElem?_eq_getElem this]⟩
end L2
namespace L2
open PySem PySem.Spec PyProof.Rows
section
variable {X : Cx}
theorem Room.units1 {k : Nat} {A : Around} (r : Room k A) : A.units + 1 < cLine := by have := r.un; omega
def rIxD : R2 := fun x y H Q => ∃ a v, x = .ref a ∧ DGet H a y (some v) ∧ Q v H
theorem ix_dict (hu : X.A.units + 1 < cLine) : IxR X rIxD := by
  intro value slice pins s σ H x y v u Q I rx ry h hs
  obtain ⟨a, w0, rfl, g, q⟩ := h
  obtain rfl : v = Value.ref a := rx
  have hT := dict_typeIs I g
  have h2 : wpAny (model X.prog X.w) X.A (getItem (.ref a) u) (EP X pins σ Q) X.xe s := d_getItem hu I g ry fun w' s3 I3 rw' => ⟨w0, H, I3, rw', q⟩
  unfold subscriptTail
  refine wpAny_bind ?_
  rw [getitemInPython_of_ne hT.not_modules]
  refine wpAny_bind (wpAny_specialOf hT PySem.F.slot_dict_getitem.lookup ?_)
  have fin : wpAny (model X.prog X.w) X.A (subscripted slice false (.ref a) u) (fun r s₃ => wpAny (model X.prog X.w) X.A (letTemporaryGo value (.ref a) r >>= fun _ => pure r) (EP X pins σ Q) X.xe s₃) X.xe s := by
    rw [hs]
    exact wpAny_operating (wpAny_mono h2 (fun r s₃ h₃ => wpAny_bind (wpAny_letTemporaryGo (wpAny_pure h₃))) fun _ _ x => x)
  first
    | exact wpAny_pure (wpAny_bind fin)
    | exact wpAny_bind (wpAny_pure (wpAny_bind fin))
    | exact wpAny_bind fin
def rIxA (K : PySem.W.Frag) : R2 := fun x y H Q => rIx K x y H Q ∨ rIxD x y H Q
theorem ix_any (hu : X.A.units + 1 < cLine) : IxR X (rIxA X.K) := ix_seq.or (ix_dict hu)
variable {o e : Expr} {to te : TE} {p pos : Pos}
def tDNewA : TE := fun σ H Q => tDNewK σ H Q ∨ tDNewT σ H Q
theorem x_dnewA : QE X (.Dict [] [] pos) tDNewA := ⟨fun pins s σ H Q I h => h.elim (pe_dnewK pins s σ H Q I) (pe_dnewT pins s σ H Q I)⟩
theorem call_lenT : CallR X (.builtin "len") (fun xs H Q => ∃ p kvs, xs = [.ref p] ∧ H p = some (.dT kvs) ∧ Q (.int kvs.length) H) := by
  intro pins s σ H xs us Q I r h
  obtain ⟨a, kvs, rfl, e, q⟩ := h
  obtain ⟨u, rfl, r1⟩ := vals1 r
  cases r1
  obtain ⟨z, hd, ps, rel, dd⟩ := dt_of I.hok e
  have hl : ps.length = kvs.length := (Paired.length rel).symm
  have hT : s.TypeIs (.ref a) "dict" := dd.typeIs
  obtain ⟨o, es, ep, ho, hc, hdat, he, his, hn⟩ := dd
  have hsz : es.size = kvs.length := by rw [← hl]; have := congrArg List.length he; simpa using this
  have M : MeetsIn X.prog X.w (Builtin.«dict.__len__» ⟨[.ref a], []⟩) (fun _ R s => s.heap.get? a = some o ∧ R (.ok (.ret (.int kvs.length s.toks))) { s with toks := s.toks + 1 }) :=
    .of_wp fun A R s ⟨ho, h⟩ => by
      show wpAny _ _ (dictSize a >>= _) _ _ s
      unfold dictSize
      refine wpAny_bind (wpAny_bind (wpAny_dictEntries ho hdat (wpAny_pure ?_)))
      show wpAny _ _ (Builtin.Dict.pendingCount a >>= _) _ _ s
      refine wpAny_bind (wpAny_pendingCount_other hd ?_)
      refine wpAny_ret_mkInt ?_
      rw [Nat.add_zero, hsz]; exact h
  refine Calls.call_function_entry kind_len plain_len entry_len (args_len1 _) ?_
  unfold Builtin.«len»
  refine wpAny_bind (m := oneArg "len" _) (wpAny_pure ?_)
  refine wpAny_bind (m := callSpecial? (.ref a) (Str.ofString "__len__")) (wpAny_callSpecial?_slot (name := Str.ofString "__len__") hT F.slot_dict_len
    (call_meetsIn F.slot_dict_len hT F.entry_dict_len (F.args_dict_len_1 _) M ⟨ho, ?_⟩))
  show wpAny _ _ _ _ _ { s with toks := s.toks + 1 }
  refine wpAny_bind (wpAny_holding (wpAny_pure ?_))
  refine wpAny_bind (wpAny_letGo ?_)
  have zz : kvs.length ≤ sizeLine := z
  rw [sizeLine_eq] at zz
  show wpAny _ _ (if ((kvs.length : Nat) : Int) < 0 then _ else _) _ _ _
  rw [if_neg (by omega)]
  show wpAny _ _ (if ((kvs.length : Nat) : Int) ≥ 2 ^ 63 then _ else _) _ _ _
  rw [if_neg (by omega)]
  exact wpAny_bind (wpAny_mkInt (wpAny_pure ⟨_, rfl, ⟨.int kvs.length, H, I.tok _, ⟨_, rfl⟩, q⟩⟩))
def kLenA (K : PySem.W.Frag) : List V → Hp → VK → Prop := fun xs H Q => kLen K xs H Q ∨ ∃ p kvs, xs = [.ref p] ∧ H p = some (.dT kvs) ∧ Q (.int kvs.length) H
theorem cLenA : CallR X (.builtin "len") (kLenA X.K) := cLen.or call_lenT
def DDef (H : Hp) (a : Addr) (y d : V) (r : V) (H' : Hp) : Prop := (DGet H a y (some r) ∧ H' = H) ∨ (DGet H a y none ∧ DPut H a y d H' ∧ r = d)
theorem dictSetDefault_heap {A : Around} {E : Value → Shared → Prop} {s : Shared} {P : Program} {w : World} {K : Type} [DecidableEq K] {knd : HeapKind P w K} {d a : Addr} {xs : List (K × Addr × Value)} {k : K} {v : Value} {Q : Value → Shared → Prop} (hu : knd.room A) (hkey : knd.is s.heap k a) (hm : s.heap.DictOfH knd d xs)
    (hthere : ∀ p, atKey xs k = some p → Q p.2 { s with toks := s.toks + knd.draws k })
    (hQ : atKey xs k = none → ∀ h', h'.DictOfH knd d (storedH xs k a v) → Heap.SameBut d s.heap h' → Q v { s with heap := h', toks := s.toks + knd.draws k })
    (hsz : xs.length ≤ sizeLine) :
    wpAny (model P w) A (dictSetDefault d (.ref a) v) Q E s := by
  obtain ⟨o, es, ep, ho, hc, hd, he, his, hn⟩ := hm
  unfold dictSetDefault
  try with_reducible refine wpAny_holding ?_
  refine wpAny_bind (knd.pyHash hu hkey ?_)
  refine wpAny_bind (wpAny_dictFind_heap (s := { s with toks := s.toks + knd.draws k }) hu hkey ho hd he his hn ?_ ?_)
  · intro hno
    have hnot : k ∉ xs.map (·.1) := not_mem_keys_of_get hno
    refine wpAny_bind (wpAny_rule (wpAny_bind (wpAny_updateDictKeys (hz := by have e := size_of_entries he; omega) (s := { s with toks := s.toks + knd.draws k }) ho hd (wpAny_pure (hQ (atKey_none_of_get hno) _ ⟨_, _, ep + 1, Heap.get?_update_self _ ho (Obj.isFreed_of_dict (Obj.data_mapDictKeys hd _)),
      hc.mapDictKeys _, Obj.data_mapDictKeys hd _, ?_, ?_, ?_⟩ (Heap.SameBut.update ..))))))
    · rw [storedH_new (atKey_none_of_get hno)]
      simp [he, entryOfKey]
    · rw [storedH_new (atKey_none_of_get hno)]
      intro x hx
      rcases List.mem_append.mp hx with hx | hx
      · exact knd.keeps (his x hx) ho hd (Heap.SameBut.update ..)
      · simp only [List.mem_singleton] at hx
        subst hx
        exact knd.keeps hkey ho hd (Heap.SameBut.update ..)
    · rw [storedH_new (atKey_none_of_get hno)]
      rw [List.map_append, List.nodup_append]
      refine ⟨hn, by simp, ?_⟩
      intro x hx y hy
      simp only [List.map_cons, List.map_nil, List.mem_singleton] at hy
      subst hy
      exact fun e => hnot (e ▸ hx)
  · intro j p hj
    refine wpAny_bind (wpAny_dictEntries (s := { s with toks := s.toks + knd.draws k }) ho hd ?_)
    rw [entry_at he j, hj]
    exact wpAny_bind (wpAny_rule (wpAny_pure (hthere p (atKey_of_get hn hj))))
end
end L2
namespace L2
open PySem PySem.Spec PyProof.Rows
theorem plain_is {h : Heap} {a : Addr} {its : Array Value} (p : PlainL h a its) : h.IsList a its := let ⟨o, n, e, c, _, d⟩ := p; ⟨o, e, c, n, d⟩
structure ZipAtL (h : Heap) (z TI TO i1 i2 t1 t2 : Addr) (k : Nat) : Prop where
  z : IsZip h z TI TO .none
  ti : IsPair h TI (.ref i1) (.ref i2)
  to : ∃ a b, IsPair h TO a b
  j1 : h.IsListIter i1 t1 k
  j2 : h.IsListIter i2 t2 k
section
variable {X : Cx} {a b : Expr} {t : TA} {p pos ep : Pos} {elts : List Expr} {ek : Nat}
end
end L2
namespace L2
open PySem PySem.Spec PyProof.Rows
structure CloT where
  qual : Str
  body : FuncBody
  scope : Scope
  ps : List Str
  ys : List Str
def CloFd (t : CloT) (cs : List Addr) (c : Addr) (fd : FuncData) : Prop :=
  fd.qualname = t.qual ∧ fd.body = t.body ∧ fd.scope = t.scope ∧ fd.globals = mainGlobals ∧ fd.closure = t.ys.zip cs ∧ fd.code = .ref c ∧ fd.builtins = builtinsNs ∧
    (∀ us : List Value, us.length = t.ps.length → bindArgs fd ⟨us, []⟩ = pure (t.ps.zip us)) ∧ cs.Nodup ∧ cs.length = t.ys.length
def cloO (f : Addr) (t : CloT) (cs : List Addr) (c : Addr) : HO := .ext fun h => ∃ od fd sl, h.get? f = some ⟨.type "function", od, .func fd, sl⟩ ∧ CloFd t cs c fd
def codeO (c : Addr) (qual : Str) : HO := .ext fun h => ∃ o vs tk, h.get? c = some o ∧ o.data = .fields vs ∧ vs[1]? = some (.str qual tk)
def cellO (c : Addr) (v : V) : HO := .ext fun h => ∃ u o, RelV v u ∧ h.get? c = some o ∧ o.data = .cell (some u)
abbrev CellsAt (H : Hp) : List Addr → List V → Prop := Paired fun c v => H c = some (cellO c v)
structure CloAt (H : Hp) (f : Addr) (t : CloT) (cs : List Addr) (cvs : List V) : Prop where
  ex : ∃ c, H f = some (cloO f t cs c) ∧ H c = some (codeO c t.qual)
  cells : CellsAt H cs cvs
theorem CellsAt.mem {H : Hp} {cs : List Addr} {cvs : List V} (h : CellsAt H cs cvs) : ∀ c ∈ cs, ∃ v, H c = some (cellO c v) := by
  induction h with
  | nil => intro c hc; cases hc
  | cons r t ih =>
    intro c hc
    rcases List.mem_cons.mp hc with rfl | hc
    · exact ⟨_, r⟩
    · exact ih c hc
theorem CellsAt.get {H : Hp} {cs : List Addr} {cvs : List V} (h : CellsAt H cs cvs) : ∀ {i : Nat} {v : V}, cvs[i]? = some v → ∃ c, cs[i]? = some c ∧ H c = some (cellO c v) := by
  induction h with
  | nil => intro i v e; cases e
  | @cons c w cs ws r t ih =>
    intro i v e
    cases i with
    | zero => cases e; exact ⟨c, rfl, r⟩
    | succ i => exact ih e
def hideC (cs : List Addr) (H : Hp) : Hp := fun b => if b ∈ cs then none else H b
def backC (cs : List Addr) (H H' : Hp) : Hp := fun b => if b ∈ cs then H b else H' b
theorem hideC_in {cs : List Addr} {H : Hp} {b : Addr} (h : b ∈ cs) : hideC cs H b = none := if_pos h
theorem hideC_out {cs : List Addr} {H : Hp} {b : Addr} (h : b ∉ cs) : hideC cs H b = H b := if_neg h
theorem backC_in {cs : List Addr} {H H' : Hp} {b : Addr} (h : b ∈ cs) : backC cs H H' b = H b := if_pos h
theorem backC_out {cs : List Addr} {H H' : Hp} {b : Addr} (h : b ∉ cs) : backC cs H H' b = H' b := if_neg h
theorem backC_hide (cs : List Addr) (H : Hp) : backC cs H (hideC cs H) = H := by
  funext b
  by_cases h : b ∈ cs
  · exact backC_in h
  · rw [backC_out h, hideC_out h]
theorem backC_upd {cs : List Addr} {H H' : Hp} {d : Addr} {o : HO} (h : d ∉ cs) : backC cs H (upd H' d o) = upd (backC cs H H') d o := by
  funext b
  by_cases hb : b ∈ cs
  · have : b ≠ d := fun e => h (e ▸ hb)
    rw [backC_in hb, upd_ne this, backC_in hb]
  · rw [backC_out hb]
    by_cases e : b = d
    · subst e; rw [upd_same, upd_same]
    · rw [upd_ne e, upd_ne e, backC_out hb]
theorem CellsAt.notin {H : Hp} {cs : List Addr} {cvs : List V} (h : CellsAt H cs cvs) {b : Addr} {o : HO} (e : H b = some o) (hn : ∀ φ, o ≠ .ext φ) : b ∉ cs := fun hb => by
  obtain ⟨v, ev⟩ := h.mem b hb
  rw [e] at ev
  exact hn _ (Option.some.inj ev)
theorem CellsAt.hide {H : Hp} {cs : List Addr} {cvs : List V} (h : CellsAt H cs cvs) {b : Addr} {o : HO} (e : H b = some o) (hn : ∀ φ, o ≠ .ext φ) : hideC cs H b = some o := by
  rw [hideC_out (h.notin e hn)]; exact e
theorem Same.hide {H H' : Hp} (cs : List Addr) (s : Same (hideC cs H) H') : Same H (backC cs H H') := fun b o e => by
  by_cases hb : b ∈ cs
  · rw [backC_in hb]; exact e
  · rw [backC_out hb]; exact s _ _ (by rw [hideC_out hb]; exact e)
section
variable {P : Program} {w : World} {fs : List Addr} {H H' : Hp} {h h' : Heap} {cs : List Addr} {cvs : List V}
theorem hide_ok (hc : CellsAt H cs cvs) (ok : HOk P w H h) : HOk P w (hideC cs H) h := fun b o e => by
  by_cases hb : b ∈ cs
  · rw [hideC_in hb] at e; cases e
  · rw [hideC_out hb] at e
    exact (ok b o e).stay (fun c u _ q => q) (fun c q => hc.hide q fun φ z => nomatch z) fun c xs q => hc.hide q fun φ z => nomatch z
theorem back_ok (hc : CellsAt H cs cvs) (hfs : ∀ b ∈ fs, H b = none) (ok : HOk P w H h) (u : Un fs [] (hideC cs H) H' h h') (ok' : HOk P w H' h') : Un fs [] H (backC cs H H') h h' ∧ HOk P w (backC cs H H') h' := by
  have obj : ∀ c ∈ cs, ∃ v o, H c = some (cellO c v) ∧ h.get? c = some o ∧ h'.get? c = some o ∧ H' c = none := fun c hm => by
    obtain ⟨v, ev⟩ := hc.mem c hm
    obtain ⟨_, ⟨o, eo⟩, _⟩ := (show ObjOk P w H h c (cellO c v) from ok c _ ev)
    refine ⟨v, o, ev, eo, u.keep c o eo (hideC_in hm) (fun z => ?_) (by simp), u.free c o eo (hideC_in hm) (by simp)⟩
    rw [hfs c z] at ev; cases ev
  have nin : ∀ b, H b = none → b ∉ cs := fun b e hb => by
    obtain ⟨v, ev⟩ := hc.mem b hb
    rw [e] at ev; cases ev
  have nin' : ∀ b o, H' b = some o → b ∉ cs := fun b o e hb => by
    obtain ⟨_, _, _, _, _, z⟩ := obj b hb
    rw [e] at z; cases z
  refine ⟨⟨fun b o e n hb hx => u.keep b o e (by rw [hideC_out (nin b n)]; exact n) hb hx, fun b o e n hb hx => u.slot b o e (by rw [hideC_out (nin b n)]; exact n) hb hx,
    fun b o e n hx => by rw [backC_out (nin b n)]; exact u.free b o e (by rw [hideC_out (nin b n)]; exact n) hx, u.there, fun b xs e => ?_, fun b o v e => ?_, fun b ps e => ?_⟩, fun b o e => ?_⟩
  · have hb := hc.notin e fun φ z => nomatch z
    rw [backC_out hb]; exact u.tups b xs (by rw [hideC_out hb]; exact e)
  · have hb := hc.notin e fun φ z => nomatch z
    rw [backC_out hb]; exact u.frzs b o v (by rw [hideC_out hb]; exact e)
  · have hb := hc.notin e fun φ z => nomatch z
    rw [backC_out hb]; exact u.tbls b ps (by rw [hideC_out hb]; exact e)
  · by_cases hb : b ∈ cs
    · rw [backC_in hb] at e
      obtain ⟨v, o', ev, e1, e2, _⟩ := obj b hb
      rw [e] at ev; cases ev
      obtain ⟨φ1, _, φ3⟩ := (show ObjOk P w H h b (cellO b v) from ok b _ e)
      exact ⟨φ3 h h' φ1 fun q hq => by rw [e1] at hq; cases hq; exact e2, ⟨o', e2⟩, φ3⟩
    · rw [backC_out hb] at e
      exact (ok' b o e).stay (fun c u _ q => q) (fun c q => by rw [backC_out (nin' c _ q)]; exact q) fun c xs q => by rw [backC_out (nin' c _ q)]; exact q
theorem CR.back {outer : List Env} {s s' : Shared} {Q : VK} {E : XK} {r : Result} (hc : CellsAt H cs cvs) (hfs : ∀ b ∈ frs outer, H b = none) (ok : HOk P w H s.heap)
    (h : CR (CX1 P w) outer P w (hideC cs H) s (fun v H' => Q v (backC cs H H')) (fun c a H' => E c a (backC cs H H')) r s') : CR (CX1 P w) outer P w H s Q E r s' := by
  cases r with
  | error e =>
    obtain ⟨a, C, H', rfl, F, q⟩ := h
    obtain ⟨u, k⟩ := back_ok hc hfs ok F.un F.hok
    have na : a ∉ cs := fun hb => by
      obtain ⟨v, ev⟩ := hc.mem a hb
      obtain ⟨_, ⟨o, eo⟩, _⟩ := (show ObjOk P w H s.heap a (cellO a v) from ok a _ ev)
      rw [F.new] at eo; cases eo
    obtain ⟨oe, vs, a0, T, oT, ts, t1, t2, t3, t4, t5, t6, t7, t8, t9, t10, t11⟩ := F.tr
    have nT : T ∉ cs := fun hb => by
      obtain ⟨v, ev⟩ := hc.mem T hb
      obtain ⟨_, ⟨o, eo⟩, _⟩ := (show ObjOk P w H s.heap T (cellO T v) from ok T _ ev)
      rw [t10] at eo; cases eo
    exact ⟨a, C, _, rfl, ⟨F.os, F.bare, u, k, F.new, by rw [backC_out na]; exact F.free, ⟨oe, vs, a0, T, oT, ts, t1, t2, t3, t4, t5, t6, t7, t8, t9, t10, by rw [backC_out nT]; exact t11⟩⟩, q⟩
  | ok fl =>
    cases fl with
    | ret u =>
      obtain ⟨v, H', os, bare, un, hok, rv, q⟩ := h
      obtain ⟨u', k⟩ := back_ok hc hfs ok un hok
      exact ⟨v, _, os, bare, u', k, rv, q⟩
    | next => exact False.elim h
    | brk => exact False.elim h
    | cont => exact False.elim h
end
structure CloOk (P : Program) (w : World) (K : PySem.W.Frag) (mg : Str → Option Value) (base : Heap) (k : Nat) (t : CloT) (sp : Sp) : Prop where
  run : ∀ (A : Around) (outer : List Env) (s : Shared) (H : Hp) (f : Addr) (cs : List Addr) (us : List Value) (vs cvs : List V) (Q : VK) (E : XK), Room k A → Env0 P w K mg base A outer s H → CloAt H f t cs cvs → Vals vs us → vs.length = t.ps.length →
    sp (vs ++ cvs) (hideC cs H) (fun v H' => Q v (backC cs H H')) (fun c a H' => E c a (backC cs H H')) → codeAny (model P w) A (.call (.ref f) ⟨us, []⟩) (CR (CX1 P w) outer P w H s Q E) s
def startC (N : List Str) (vs cvs : List V) : St := vs.map some ++ (List.replicate (N.length - vs.length - cvs.length) none ++ cvs.map some)
def cxClo (P : Program) (w : World) (K : PySem.W.Frag) (mg : Str → Option Value) (base : Heap) (N : List Str) (qual : Str) (scope : Scope) (f c : Addr) (cl : List (Str × Addr)) (A : Around) (outer : List Env) (s : Shared) (H : Hp) (E : XK) : Cx where
  prog := P
  w := w
  K := K
  mg := mg
  base := base
  A := A.deeper (PySem.W.envX qual scope s.heap.objs.size f (.ref c) cl)
  N := N
  s₀ := s
  H₀ := H
  env := PySem.W.envX qual scope s.heap.objs.size f (.ref c) cl
  outer := outer
  stack := PySem.W.envX qual scope s.heap.objs.size f (.ref c) cl :: outer
  ex := []
  calm := true
  fn := fun _ => false
  pn := []
  xe := fun e s' => wpAny (model P w) (A.deeper (PySem.W.envX qual scope s.heap.objs.size f (.ref c) cl)) (leaving (PySem.W.envX qual scope s.heap.objs.size f (.ref c) cl) e) (fun _ s'' => CX1 P w outer H s E e s'') (fun e' s'' => CX1 P w outer H s E e' s'') s'
structure CloScope (N ps ys : List Str) (sc : Scope) : Prop where
  kind : sc.kind = .function
  co : sc.isCoroutine = false
  gen : sc.isGenerator = false
  nd : N.Nodup
  pre : N.take ps.length = ps
  suf : N.drop (N.length - ys.length) = ys
  le : ps.length + ys.length ≤ N.length
  par : ∀ x ∈ ps, sc.names.lookup x = some .local
  nocell : ∀ x ∈ sc.names, x.2 ≠ .cell
  fr : ∀ x ∈ ys, sc.names.lookup x = some .free
  frs : ∀ y ∈ sc.names, y.2 = .free → y.1 ∈ ys
theorem lookup_zip {ys : List Str} {cs : List Addr} (hl : cs.length = ys.length) (nd : ys.Nodup) : ∀ {i : Nat} {y : Str} {c : Addr}, ys[i]? = some y → cs[i]? = some c → (ys.zip cs).lookup y = some c := by
  induction ys generalizing cs with
  | nil => intro i y c e; cases e
  | cons a r ih =>
    intro i y c e1 e2
    cases cs with
    | nil => cases e2
    | cons b cs =>
      cases i with
      | zero => cases e1; cases e2; show (List.lookup _ ((_, _) :: _)) = _; rw [List.lookup_cons]; simp
      | succ i =>
        have hne : y ≠ a := fun e => (List.nodup_cons.mp nd).1 (e ▸ List.mem_of_getElem? (show r[i]? = some y from e1))
        show (List.lookup y ((a, b) :: r.zip cs)) = _
        rw [List.lookup_cons, show (y == a) = false from by simpa using hne]
        exact ih (by simpa using hl) (List.nodup_cons.mp nd).2 (show r[i]? = some y from e1) (show cs[i]? = some c from e2)
theorem lookup_zip_of {ys : List Str} {cs : List Addr} : ∀ {y : Str} {c : Addr}, (ys.zip cs).lookup y = some c → ∃ i : Nat, ys[i]? = some y ∧ cs[i]? = some c := by
  induction ys generalizing cs with
  | nil => intro y c e; cases e
  | cons a r ih =>
    intro y c e
    cases cs with
    | nil => cases e
    | cons b cs =>
      have e : (List.lookup y ((a, b) :: r.zip cs)) = some c := e
      rw [List.lookup_cons] at e
      by_cases hy : (y == a) = true
      · rw [hy] at e; cases e; exact ⟨0, by simpa using (eq_of_beq hy).symm, rfl⟩
      · rw [show (y == a) = false from by simpa using hy] at e
        obtain ⟨i, h1, h2⟩ := ih e
        exact ⟨i + 1, h1, h2⟩
theorem lookup_rev_zip {ps : List Str} {us : List Value} (nd : ps.Nodup) : ∀ {i : Nat} {x : Str} {u : Value}, ps[i]? = some x → us[i]? = some u → (ps.zip us).reverse.lookup x = some u := by
  induction ps generalizing us with
  | nil => intro i x u e; cases e
  | cons a r ih =>
    intro i x u e1 e2
    cases us with
    | nil => cases e2
    | cons b us =>
      show (List.lookup x ((a, b) :: r.zip us).reverse) = _
      rw [List.reverse_cons, List.lookup_append]
      cases i with
      | zero =>
        cases e1; cases e2
        have : (r.zip us).reverse.lookup a = none := by
          rw [List.lookup_eq_none_iff]
          intro p hp
          have := (List.of_mem_zip (List.mem_reverse.mp hp)).1
          simp only [beq_eq_false_iff_ne, ne_eq, bne_iff_ne]
          intro e
          exact (List.nodup_cons.mp nd).1 (by rw [← e] at this; exact this)
        rw [this]; simp
      | succ i =>
        rw [ih (List.nodup_cons.mp nd).2 (show r[i]? = some x from e1) (show us[i]? = some u from e2)]; rfl
end L2
namespace L2
open PySem PySem.Spec PyProof.Rows
section
variable {P : Program} {w : World} {K : PySem.W.Frag} {mg : Str → Option Value} {base : Heap} {N ps ys : List Str} {qual : Str} {scope : Scope} {f c : Addr} {A : Around} {outer : List Env} {s : Shared} {H : Hp} {E : XK} {us : List Value} {vs cvs : List V} {cs : List Addr} {h1 : Heap} {tk : Nat}
theorem inv_clo (S : CloScope N ps ys scope) (hd : A.handled = none) (e0 : Env0 P w K mg base A outer s H) (ca : CellsAt H cs cvs) (hcs : cs.Nodup) (hcl : cs.length = ys.length) (hl : vs.length = ps.length) (r : Vals vs us)
    (hns : h1.Ns s.heap.objs.size (fun x => (ps.zip us).reverse.lookup x)) (hk : ∀ b o, s.heap.get? b = some o → h1.get? b = some o) :
    Inv (cxClo P w K mg base N qual scope f c (ys.zip cs) A outer s (hideC cs H) E) [] (startC N vs cvs) (hideC cs H) { s with heap := h1, toks := tk } := by
  have ndY : ys.Nodup := by rw [← S.suf]; exact S.nd.sublist (List.drop_sublist _ _)
  have ndP : ps.Nodup := by rw [← S.pre]; exact S.nd.sublist (List.take_sublist _ _)
  have lcv : cvs.length = ys.length := by rw [← hcl]; exact (Paired.length ca).symm
  have cellOf : ∀ c ∈ cs, ∃ v, h1.IsCell c v := fun c hm => by
    obtain ⟨v, ev⟩ := ca.mem c hm
    obtain ⟨⟨u, o, _, eo, hd⟩, _, _⟩ := (show ObjOk P w H s.heap c (cellO c v) from e0.hok c _ ev)
    exact ⟨_, o, hk _ _ eo, hd⟩
  have memC : ∀ x c, (ys.zip cs).lookup x = some c → c ∈ cs := fun x c e => by
    obtain ⟨i, _, e2⟩ := lookup_zip_of e
    exact List.mem_of_getElem? e2
  have noA : ∀ b : Addr, b ∉ (cxClo P w K mg base N qual scope f c (ys.zip cs) A outer s (hideC cs H) E).ex := fun b z => absurd (show b ∈ ([] : List Addr) from z) (by simp)
  have hid : ∀ b, H b = none → hideC cs H b = none := fun b e => by
    by_cases hb : b ∈ cs
    · exact hideC_in hb
    · rw [hideC_out hb]; exact e
  refine ⟨⟨e0.mod, S.kind, rfl, rfl, Nat.le_refl _, fun y z c h1 h2 => ?_, fun y hy => ?_, fun y c hf _ => ?_, fun _ => hd, Around.frames_deeper e0.frames, .inr ⟨rfl, rfl⟩, fun b z => absurd z (noA b), fun b o e => ⟨(e0.bs b o e).1, hid b (e0.bs b o e).2⟩, e0.bsz, fun b _ _ => noA b, fun b z => absurd z (noA b), e0.funs, fun b hb => hid b (e0.frf b hb)⟩,
    rfl, e0.bare, Un.kept hk, ⟨_, hns, fun i y v q1 q2 q3 => ?_⟩, fun y c h => cellOf c (memC y c h), hid _ (e0.hok.fresh (Nat.le_refl _)), fun y c h => hideC_in (memC y c h), fun p hp => absurd (show p ∈ ([] : List (Addr × Obj)) from hp) (by simp), (hide_ok ca e0.hok).kept hk, ?_⟩
  · obtain ⟨i, e1, e2⟩ := lookup_zip_of (show (ys.zip cs).lookup y = some c from h1)
    obtain ⟨j, e3, e4⟩ := lookup_zip_of (show (ys.zip cs).lookup z = some c from h2)
    have : i = j := by
      obtain ⟨a1, b1⟩ := List.getElem?_eq_some_iff.mp e2
      obtain ⟨a2, b2⟩ := List.getElem?_eq_some_iff.mp e4
      exact (List.getElem_inj hcs).mp (b1.trans b2.symm)
    subst this
    rw [e1] at e3; exact Option.some.inj e3
  · have hy : scope.names.lookup y = some .cell ∨ scope.names.lookup y = some .free := hy
    rcases hy with hy | hy
    · exact absurd rfl (S.nocell _ (PySem.mem_of_lookup hy))
    · obtain ⟨i, hi, e⟩ := List.mem_iff_getElem.mp (S.frs _ (PySem.mem_of_lookup hy) rfl)
      have hi2 : i < cs.length := by omega
      exact ⟨cs[i], lookup_zip hcl ndY (List.getElem?_eq_some_iff.mpr ⟨hi, e⟩) (List.getElem?_eq_getElem hi2)⟩
  · exact absurd (show false = true from hf) Bool.false_ne_true
  · unfold startC at q2
    by_cases hi : i < vs.length
    · rw [List.getElem?_append_left (by simpa using hi), List.getElem?_map] at q2
      have ha : vs[i]? = some v := by
        cases e : vs[i]? with
        | none => rw [e] at q2; cases q2
        | some a => rw [e] at q2; cases q2; rfl
      obtain ⟨u, hu, rv⟩ := r.get ha
      have hp : ps[i]? = some y := by
        rw [← S.pre, List.getElem?_take_of_lt (by omega)]; exact q1
      exact ⟨u, rv, .inl ⟨S.par y (List.mem_of_getElem? hp), lookup_rev_zip ndP hp hu⟩⟩
    · rw [List.getElem?_append_right (by simpa using hi), List.length_map] at q2
      by_cases hj : i - vs.length < N.length - vs.length - cvs.length
      · rw [List.getElem?_append_left (by simpa using hj), List.getElem?_replicate] at q2
        split at q2 <;> cases q2
      · rw [List.getElem?_append_right (by simpa using hj), List.length_replicate, List.getElem?_map] at q2
        have ha : cvs[i - vs.length - (N.length - vs.length - cvs.length)]? = some v := by
          cases e : cvs[i - vs.length - (N.length - vs.length - cvs.length)]? with
          | none => rw [e] at q2; cases q2
          | some a => rw [e] at q2; cases q2; rfl
        have hle := S.le
        have hiN : i < N.length := (List.getElem?_eq_some_iff.mp q1).1
        have hx : i - vs.length - (N.length - vs.length - cvs.length) = i - (N.length - ys.length) := by omega
        rw [hx] at ha
        have hy : ys[i - (N.length - ys.length)]? = some y := by
          have e1 : N.drop (N.length - ys.length) = ys := S.suf
          have e2 : (N.drop (N.length - ys.length))[i - (N.length - ys.length)]? = some y := by
            rw [List.getElem?_drop]
            rw [show N.length - ys.length + (i - (N.length - ys.length)) = i by omega]; exact q1
          rw [e1] at e2; exact e2
        obtain ⟨c, ec, hc⟩ := ca.get ha
        obtain ⟨⟨u, o, ru, eo, hdo⟩, _, _⟩ := (show ObjOk P w H s.heap c (cellO c v) from e0.hok c _ hc)
        exact ⟨u, ru, .inr ⟨.inr (S.fr y (List.mem_of_getElem? hy)), c, lookup_zip hcl ndY hy ec, o, hk _ _ eo, hdo⟩⟩
  · unfold startC
    show _ = N.length
    have := S.le
    rw [List.length_append, List.length_append, List.length_map, List.length_map, List.length_replicate]
    omega
end
section
variable {P : Program} {w : World} {K : PySem.W.Frag} {mg : Str → Option Value} {base : Heap} {k : Nat} {t : CloT} {N : List Str} {sp : Sp}
theorem clo_of {body : List Stmt} (hb : t.body = .stmts body) (S : CloScope N t.ps t.ys t.scope)
    (hbody : ∀ (f c : Addr) (cl : List (Str × Addr)) (A : Around) (outer : List Env) (s : Shared) (H : Hp) (vs cvs : List V) (Q : VK) (E : XK), Room k (A.deeper (PySem.W.envX t.qual t.scope s.heap.objs.size f (.ref c) cl)) → vs.length = t.ps.length → cvs.length = t.ys.length → sp (vs ++ cvs) H Q E →
      ∃ td, PSs (cxClo P w K mg base N t.qual t.scope f c cl A outer s H E) body td ∧ td { nx := fun _ H' => Q .non H', rt := Q } (startC N vs cvs) H) : CloOk P w K mg base (k + 1) t sp := by
  refine ⟨fun A outer s H f cs us vs cvs Q E hr e0 ca r hl hsp => ?_⟩
  obtain ⟨c, hf, hcc⟩ := ca.ex
  have KX : K.In s.heap := e0.mod.kin.keeps fun b o e => (e0.bs b o e).1
  have lim : s.heap.NoLimit := e0.mod.nolimit.keeps fun b o e => (e0.bs b o e).1
  obtain ⟨⟨od, fd, sl, ho, h1, h2, h3, h4, h5, h6, h7, h8, h9, h10⟩, _, _⟩ := (show ObjOk P w H s.heap f (cloO f t cs c) from e0.hok f _ hf)
  obtain ⟨⟨o, vs', tk, hco, hdo, hv⟩, _, _⟩ := (show ObjOk P w H s.heap c (codeO c t.qual) from e0.hok c _ hcc)
  have hcd : s.heap.CodeRec fd.code fd.qualname := ⟨c, o, vs', tk, h6, hco, hdo, by rw [h1]; exact hv⟩
  refine codeAny_mono (codeAny_call_function (R := CR (CX1 P w) outer P w (hideC cs H) s (fun v H' => Q v (backC cs H H')) (fun c a H' => E c a (backC cs H H'))) hr.depth ho rfl (by rw [h3]; exact S.co) (by rw [h3]; exact S.gen) (h2.trans hb) hcd ?_) fun r s' h => CR.back ca.cells e0.frf e0.hok h
  rw [h8 us (by rw [← r.length]; exact hl), h3, h4, h5, h1, h6, h7]
  refine wpAny_pure (wpAny_newFunctionEnv S.nocell (fun y hy => S.par y.1 (List.of_mem_zip hy).1) (fun h' hns hsb => ⟨lim.fresh _ hsb, ?_⟩) S.kind)
  have hk : ∀ b o, s.heap.get? b = some o → h'.get? b = some o := fun b o e => hsb.extBut b o (Nat.ne_of_lt (Heap.lt_size e)) (Heap.get?_push_of_some _ e)
  have lcv : cvs.length = t.ys.length := by rw [← h10]; exact (Paired.length ca.cells).symm
  obtain ⟨td, ht, hq⟩ := hbody f c (t.ys.zip cs) A outer s (hideC cs H) vs cvs _ _ (hr.deeper _) hl lcv hsp
  have I := inv_clo (tk := s.toks + (t.ps.zip us).length) (qual := t.qual) (f := f) (c := c) (E := fun c a H' => E c a (backC cs H H')) S hr.hd e0 ca.cells h9 h10 hl r hns hk
  show codeAny _ _ (.func body (PySem.W.envX t.qual t.scope s.heap.objs.size f (.ref c) (t.ys.zip cs))) _ _
  refine codeAny_func ?_
  refine wpAny_mono (ht [] _ (startC N vs cvs) _ _ I hq) (fun fl s' hs => ?_) fun e s' hs => hs
  cases fl with
  | ret u =>
    obtain ⟨v, σ', H', J, rv, q⟩ := hs
    exact ⟨v, H', J.os, J.bare, J.base, J.hok, rv, q⟩
  | next =>
    obtain ⟨σ', H', J, q⟩ := hs
    exact ⟨V.non, H', J.os, J.bare, J.base, J.hok, rfl, q⟩
  | brk =>
    obtain ⟨_, _, _, q⟩ := hs
    exact False.elim q
  | cont =>
    obtain ⟨_, _, _, q⟩ := hs
    exact False.elim q
theorem clo_ofE {body : Expr} (hb : t.body = .expr body) (S : CloScope N t.ps t.ys t.scope)
    (hbody : ∀ (f c : Addr) (cl : List (Str × Addr)) (A : Around) (outer : List Env) (s : Shared) (H : Hp) (vs cvs : List V) (Q : VK) (E : XK), Room k (A.deeper (PySem.W.envX t.qual t.scope s.heap.objs.size f (.ref c) cl)) → vs.length = t.ps.length → cvs.length = t.ys.length → sp (vs ++ cvs) H Q E →
      ∃ te, PE (cxClo P w K mg base N t.qual t.scope f c cl A outer s H E) body te ∧ te (startC N vs cvs) H Q) : CloOk P w K mg base (k + 1) t sp := by
  refine ⟨fun A outer s H f cs us vs cvs Q E hr e0 ca r hl hsp => ?_⟩
  obtain ⟨c, hf, hcc⟩ := ca.ex
  have KX : K.In s.heap := e0.mod.kin.keeps fun b o e => (e0.bs b o e).1
  have lim : s.heap.NoLimit := e0.mod.nolimit.keeps fun b o e => (e0.bs b o e).1
  obtain ⟨⟨od, fd, sl, ho, h1, h2, h3, h4, h5, h6, h7, h8, h9, h10⟩, _, _⟩ := (show ObjOk P w H s.heap f (cloO f t cs c) from e0.hok f _ hf)
  obtain ⟨⟨o, vs', tk, hco, hdo, hv⟩, _, _⟩ := (show ObjOk P w H s.heap c (codeO c t.qual) from e0.hok c _ hcc)
  have hcd : s.heap.CodeRec fd.code fd.qualname := ⟨c, o, vs', tk, h6, hco, hdo, by rw [h1]; exact hv⟩
  refine codeAny_mono (PySem.W.kla_callFunE (R := CR (CX1 P w) outer P w (hideC cs H) s (fun v H' => Q v (backC cs H H')) (fun c a H' => E c a (backC cs H H'))) hr.depth ho rfl (by rw [h3]; exact S.co) (by rw [h3]; exact S.gen) (h2.trans hb) hcd ?_) fun r s' h => CR.back ca.cells e0.frf e0.hok h
  rw [h8 us (by rw [← r.length]; exact hl), h3, h4, h5, h1, h6, h7]
  refine wpAny_pure (wpAny_newFunctionEnv S.nocell (fun y hy => S.par y.1 (List.of_mem_zip hy).1) (fun h' hns hsb => ⟨lim.fresh _ hsb, ?_⟩) S.kind)
  have hk : ∀ b o, s.heap.get? b = some o → h'.get? b = some o := fun b o e => hsb.extBut b o (Nat.ne_of_lt (Heap.lt_size e)) (Heap.get?_push_of_some _ e)
  have lcv : cvs.length = t.ys.length := by rw [← h10]; exact (Paired.length ca.cells).symm
  obtain ⟨te, ht, hq⟩ := hbody f c (t.ys.zip cs) A outer s (hideC cs H) vs cvs _ _ (hr.deeper _) hl lcv hsp
  have I := inv_clo (tk := s.toks + (t.ps.zip us).length) (qual := t.qual) (f := f) (c := c) (E := fun c a H' => E c a (backC cs H H')) S hr.hd e0 ca.cells h9 h10 hl r hns hk
  show codeAny _ _ (.expr body (PySem.W.envX t.qual t.scope s.heap.objs.size f (.ref c) (t.ys.zip cs))) _ _
  refine PySem.W.kla_codeExpr ?_
  refine wpAny_mono (ht [] _ (startC N vs cvs) _ _ I hq) (fun v s' hs => ?_) fun e s' hs => hs
  obtain ⟨x, H', J, rv, q⟩ := hs
  exact ⟨x, H', J.os, J.bare, J.base, J.hok, rv, q⟩
end
end L2
namespace L2
open PySem PySem.Spec PyProof.Rows
def BM (mg : Str → Option Value) (h : Heap) : Prop := ∃ bm ob, mg "__builtins__" = some (.ref bm) ∧ bm ≠ builtinsNs ∧ h.get? bm = some ob ∧ ob.cls = .type "module" ∧ ob.dict = some builtinsNs ∧ ob.data = .plain
section
variable {X : Cx} {pins : List (Addr × Obj)} {σ : St} {H : Hp} {s : Shared} {P c : Addr} {ps : Array Value} {t : CloT} {cs : List Addr} {h' : Heap} {tk : Nat} {fd : FuncData}
theorem made_new {more : Array Value} (I : Inv X pins σ H s) (hP : H P = some (.tbl ps)) (hx : Heap.ExtBut P s.heap h') (hge : s.heap.objs.size ≤ c) (hlt : c < h'.objs.size) (hrec : h'.CodeRec (.ref c) t.qual)
    (htb : h'.get? P = some (PySem.W.tabObj (ps ++ more))) (hfd : CloFd t cs c fd) :
    Inv X pins σ (upd (upd (upd H P (.tbl (ps ++ more))) c (codeO c t.qual)) h'.objs.size (cloO h'.objs.size t cs c)) { s with heap := h'.push { cls := .type "function", data := .func fd }, toks := tk } := by
  have hcn : H c = none := I.hok.fresh hge
  have hfn : H h'.objs.size = none := I.hok.fresh (Nat.le_of_lt (Nat.lt_of_le_of_lt hge hlt))
  have ncP : c ≠ P := (ne_of_none hP hcn).symm
  have nfP : h'.objs.size ≠ P := (ne_of_none hP hfn).symm
  have ncf : c ≠ h'.objs.size := Nat.ne_of_lt hlt
  have old : ∀ b o, s.heap.get? b = some o → b ≠ c ∧ b ≠ h'.objs.size := fun b o e => ⟨Nat.ne_of_lt (Nat.lt_of_lt_of_le (Heap.lt_size e) hge), Nat.ne_of_lt (Nat.lt_of_lt_of_le (Heap.lt_size e) (Nat.le_of_lt (Nat.lt_of_le_of_lt hge hlt)))⟩
  have keepP : ∀ b o, b ≠ P → s.heap.get? b = some o → (h'.push { cls := .type "function", data := .func fd }).get? b = some o := fun b o hb e => Heap.get?_push_of_some _ (hx b o hb e)
  have neP : ∀ b, H b = none → b ≠ P := fun b e z => by rw [z, hP] at e; cases e
  have obj : ∀ b o, H b = some o → ∃ u, s.heap.get? b = some u := fun b o e => obj_some (I.hok b o e)
  have same : ∀ b o, H b = some o → b ≠ P → (upd (upd (upd H P (.tbl (ps ++ more))) c (codeO c t.qual)) h'.objs.size (cloO h'.objs.size t cs c)) b = some o := fun b o e hb => by
    rw [upd_ne (ne_of_none e hfn), upd_ne (ne_of_none e hcn), upd_ne hb]; exact e
  refine I.un ⟨fun b o e n hb hx' => keepP b o (neP b n) e, fun b o e n hb hx' => ⟨o.slots, keepP b o (neP b n) e⟩, fun b o e n hx' => ?_, fun b o e hx' => ?_, fun b xs e => same b _ e (ne_of e hP (fun z => nomatch z)), fun b o u e => same b _ e (ne_of e hP (fun z => nomatch z)), fun b qs e => ?_⟩ fun b o e => ?_
  · rw [upd_ne (old b o e).2, upd_ne (old b o e).1, upd_ne (neP b n)]; exact n
  · by_cases hb : b = P
    · subst hb; exact ⟨_, Heap.get?_push_of_some _ htb⟩
    · exact ⟨o, keepP b o hb e⟩
  · by_cases hb : b = P
    · subst hb
      rw [hP] at e; cases e
      exact ⟨more, by rw [upd_ne nfP.symm, upd_ne ncP.symm, upd_same]⟩
    · exact ⟨#[], by rw [same b _ e hb]; simp⟩
  · by_cases hf : b = h'.objs.size
    · subst hf
      rw [upd_same] at e; cases e
      refine ⟨⟨_, fd, _, Heap.get?_push_size _ rfl, hfd⟩, ⟨_, Heap.get?_push_size _ rfl⟩, ?_⟩
      rintro h1 h2 ⟨od, fd', sl, e1, e2⟩ k
      exact ⟨od, fd', sl, k _ e1, e2⟩
    · rw [upd_ne hf] at e
      by_cases hc : b = c
      · subst hc
        rw [upd_same] at e; cases e
        obtain ⟨c2, oc, vs, tq, e0, e1, e2, e3⟩ := hrec
        cases e0
        refine ⟨⟨oc, vs, tq, Heap.get?_push_of_some _ e1, e2, e3⟩, ⟨_, Heap.get?_push_of_some _ e1⟩, ?_⟩
        rintro h1 h2 ⟨o, vs, tk, a1, a2, a3⟩ k
        exact ⟨o, vs, tk, k _ a1, a2, a3⟩
      · rw [upd_ne hc] at e
        by_cases hp : b = P
        · subst hp
          rw [upd_same] at e; cases e
          exact Heap.get?_push_of_some _ htb
        · rw [upd_ne hp] at e
          refine (I.hok b o e).stay (fun a u ha q => keepP a u ?_ q) (fun a q => same a _ q (ne_of q hP (fun z => nomatch z))) fun a xs q => same a _ q (ne_of q hP (fun z => nomatch z))
          rcases ha with rfl | ha
          · exact hp
          · exact ne_of ha hP (fun z => nomatch z)
theorem made_hit (I : Inv X pins σ H s) (hk : ∀ b o, s.heap.get? b = some o → h'.get? b = some o) (hsz : s.heap.objs.size ≤ h'.objs.size) (hfd : CloFd t cs c fd) :
    Inv X pins σ (upd H h'.objs.size (cloO h'.objs.size t cs c)) { s with heap := h'.push { cls := .type "function", data := .func fd }, toks := tk } := by
  refine I.laid (a := h'.objs.size) (o := cloO h'.objs.size t cs c) (fun b u e => Heap.get?_push_of_some _ (hk b u e)) hsz ⟨⟨_, fd, _, Heap.get?_push_size _ rfl, hfd⟩, ⟨_, Heap.get?_push_size _ rfl⟩, ?_⟩
  rintro h1 h2 ⟨od, fd', sl, e1, e2⟩ k
  exact ⟨od, fd', sl, k _ e1, e2⟩
end
def tLam (P : Addr) (pos : Pos) (t : CloT) (cs : List Addr) : TE := fun _ H Q => ∃ ps, H P = some (.tbl ps) ∧ TriplesOk ps.toList ∧
  ((codeAmong pos ps.toList = none ∧ ∀ c f, H c = none → H f = none → c ≠ f → Q (.ref f) (upd (upd (upd H P (.tbl (ps ++ #[rawInt pos.line, rawInt pos.col, .ref c]))) c (codeO c t.qual)) f (cloO f t cs c))) ∨
   ∃ c, codeAmong pos ps.toList = some (.ref c) ∧ ∀ f, H f = none → Q (.ref f) (upd H f (cloO f t cs c)))
section
variable {X : Cx} {c0 P : Addr} {params : Arguments} {scope : Scope} {pos : Pos} {t : CloT} {cs : List Addr}
theorem glob_ne {pins : List (Addr × Obj)} {σ : St} {H : Hp} {s : Shared} {ps : Array Value} (I : Inv X pins σ H s) (hP : H P = some (.tbl ps)) (B : BM X.mg X.base) :
    s.heap.get? P = some (PySem.W.tabObj ps) ∧ s.heap.Ns mainGlobals X.mg ∧ mainGlobals ≠ P ∧ s.heap.BuiltinsAt X.mg P := by
  have hPo : s.heap.get? P = some (PySem.W.tabObj ps) := I.hok P _ hP
  have hg : s.heap.Ns mainGlobals X.mg := I.mod.glob.keeps I.bk
  have hgP : mainGlobals ≠ P := fun q => by
    obtain ⟨o, es, ep, e, hd, _⟩ := hg
    rw [q, hPo] at e; cases e; cases hd
  obtain ⟨bm, ob, b1, b2, b3, b4, b5, b6⟩ := B
  have b3' := I.bk _ _ b3
  refine ⟨hPo, hg, hgP, bm, ob, b1, b2, fun q => ?_, fun q => ?_, b3', b4, b5, b6⟩
  · obtain ⟨o, es, ep, e, hd, _⟩ := hg
    rw [q, e] at b3'; cases b3'; rw [hd] at b6; cases b6
  · rw [q, hPo] at b3'; cases b3'; cases b4
theorem x_lam {body : Expr} (B : BM X.mg X.base) (C : PySem.W.CodeHd X.base c0 P) (hcode : X.env.code = .ref c0) (hcl : closureFor scope X.env = pure (t.ys.zip cs)) (nd : cs.Nodup) (hl : cs.length = t.ys.length)
    (hq : X.env.qual ++ "<lambda>" = t.qual) (hb : t.body = .expr body) (hs : t.scope = scope)
    (hbind : ∀ (cl : List (Str × Addr)) (pm cdv ct : Value) (us : List Value), us.length = t.ps.length → bindArgs (PySem.W.kla_fn "<lambda>" t.qual params body scope cl pm cdv ct) ⟨us, []⟩ = pure (t.ps.zip us))
    (hdef : defaultsOf params X.env = ([], []) := by rfl) : QE X (.Lambda params body scope pos) (tLam P pos t cs) := ⟨fun pins s σ H Q I h => by
  obtain ⟨ps, hP, ht, h⟩ := h
  obtain ⟨hPo, hg, hgP, hB⟩ := glob_ne I hP B
  have hfd : ∀ (pm ct : Value) (c : Addr), CloFd t cs c (PySem.W.kla_fn "<lambda>" t.qual params body scope (t.ys.zip cs) pm (.ref c) ct) := fun pm ct c => ⟨rfl, hb.symm, hs.symm, rfl, rfl, rfl, rfl, hbind _ _ _ _, nd, hl⟩
  refine PySem.W.kla_eval hdef ?_
  rw [hq]
  rcases h with ⟨hn, q⟩ | ⟨c, hf, q⟩
  · refine PySem.W.kla_makeFunction hcl I.ok.glob hg hcode (C.keeps I.bk) hPo ht hn hgP hB fun c ctv h' tk hx hge hlt hrec htb => ?_
    exact ⟨.ref h'.objs.size, _, made_new I hP hx hge hlt hrec htb (hfd _ _ _), rfl, q c h'.objs.size (I.hok.fresh hge) (I.hok.fresh (Nat.le_of_lt (Nat.lt_of_le_of_lt hge hlt))) (Nat.ne_of_lt hlt)⟩
  · refine PySem.W.kla_makeFunctionHit hcl I.ok.glob hg hcode (C.keeps I.bk) hPo ht hf hB fun ctv h' tk hk hsz => ?_
    exact ⟨.ref h'.objs.size, _, made_hit I hk hsz (hfd _ _ _), rfl, q h'.objs.size (I.hok.fresh hsz)⟩⟩
theorem x_def (i : Nat) {name : Str} {body : List Stmt} (hN : X.N.Nodup) (B : BM X.mg X.base) (C : PySem.W.CodeHd X.base c0 P) (hcode : X.env.code = .ref c0) (hcl : closureFor scope X.env = pure (t.ys.zip cs)) (nd : cs.Nodup) (hl : cs.length = t.ys.length)
    (hq : qualnameIn X.env name name = t.qual) (hb : t.body = .stmts body) (hs : t.scope = scope)
    (hbind : ∀ (cl : List (Str × Addr)) (doc pm cdv ct : Value) (us : List Value), us.length = t.ps.length → bindArgs (PySem.W.fnX name t.qual params body scope cl .none .none doc pm none cdv ct) ⟨us, []⟩ = pure (t.ps.zip us))
    (hi : X.N[i]? = some name := by rfl) (hx : Loc X.env.scope name := by first | exact .inl rfl | exact .inr rfl) (hf : X.fn name = true ∨ X.env.scope.names.lookup name = some .local := by first | exact .inl rfl | exact .inr rfl)
    (hd0 : params.defaults = [] := by rfl) (hk0 : params.kw_defaults = [] := by rfl) (ha : annTrees params none X.env = [] := by rfl) :
    QS X (.FunctionDef name params body [] none [] scope none name pos) (tAsg (tLam P pos t cs) (gName i)) := ⟨fun pins s σ H D I h => by
  obtain ⟨ps, hP, ht, h⟩ := h
  obtain ⟨hPo, hg, hgP, hB⟩ := glob_ne I hP B
  have hfd : ∀ (doc pm ct : Value) (c : Addr), CloFd t cs c (PySem.W.fnX name t.qual params body scope (t.ys.zip cs) .none .none doc pm none (.ref c) ct) := fun doc pm ct c => ⟨rfl, hb.symm, hs.symm, rfl, rfl, rfl, rfl, hbind _ _ _ _ _, nd, hl⟩
  refine PySem.W.nestDef_K hd0 hk0 ha ?_
  rw [hq]
  rcases h with ⟨hn, q⟩ | ⟨c, hff, q⟩
  · refine PySem.W.makeFunction_K hcl I.ok.glob hg hcode (C.keeps I.bk) hPo ht hn hgP hB fun c ctv doc h' tk hx' hge hlt hrec htb => ?_
    have I2 := made_new (tk := tk) (cs := cs) I hP hx' hge hlt hrec htb (hfd doc ((X.mg "__name__").getD .none) ctv c)
    exact store_ok I2 hN hi hx (v := .ref h'.objs.size) rfl (fun s' I3 => ⟨_, _, I3, q c h'.objs.size (I.hok.fresh hge) (I.hok.fresh (Nat.le_of_lt (Nat.lt_of_le_of_lt hge hlt))) (Nat.ne_of_lt hlt)⟩) hf
  · refine PySem.W.makeFunction_hit hcl I.ok.glob hg hcode (C.keeps I.bk) hPo ht hff hB fun ctv doc h' tk hk hsz => ?_
    have I2 := made_hit (tk := tk) (cs := cs) I hk hsz (hfd doc ((X.mg "__name__").getD .none) ctv c)
    exact store_ok I2 hN hi hx (v := .ref h'.objs.size) rfl (fun s' I3 => ⟨_, _, I3, q h'.objs.size (I.hok.fresh hsz)⟩) hf⟩
end
section
variable {X : Cx} {k : Nat} {E : St → XK} {x : Str} {p pos : Pos} {e : Expr} {es : List Expr} {ta : TE}
abbrev Kinds := List (CloT × Sp)
def HCall (ks : Kinds) (f : Addr) (vs : List V) (H : Hp) (Q : VK) (E : XK) : Prop := ∃ ts ∈ ks, ∃ cs cvs, CloAt H f ts.1 cs cvs ∧ vs.length = ts.1.ps.length ∧ ts.2 (vs ++ cvs) (hideC cs H) (fun v H' => Q v (backC cs H H')) (fun c a H' => E c a (backC cs H H'))
def tHeld (ks : Kinds) (E : St → XK) (ta : TE) (t : TA) : TE := fun σ H Q => ta σ H fun x H1 => ∃ f, x = .ref f ∧ (∃ ts ∈ ks, ∃ cs cvs, CloAt H1 f ts.1 cs cvs) ∧ t σ H1 fun vs H2 => HCall ks f vs H2 Q (E σ)
theorem clo_fn {P : Program} {w : World} {H : Hp} {h : Heap} {f : Addr} {t : CloT} {cs : List Addr} {cvs : List V} (ok : HOk P w H h) (c : CloAt H f t cs cvs) : PySem.W.FnAt f h := by
  obtain ⟨c', hf, _⟩ := c.ex
  obtain ⟨⟨od, fd, sl, ho, _⟩, _, _⟩ := (show ObjOk P w H h f (cloO f t cs c') from ok f _ hf)
  exact ⟨_, _, _, _, ho⟩
def KindsOk (P : Program) (w : World) (K : PySem.W.Frag) (mg : Str → Option Value) (base : Heap) (k : Nat) (ks : Kinds) : Prop := ∀ ts ∈ ks, CloOk P w K mg base k ts.1 ts.2
theorem x_held {ks : Kinds} {t : TA} (hk : KindsOk X.prog X.w X.K X.mg X.base k ks) (hr : Room k X.A) (hx : PassS (CX1 X.prog X.w) X E) (hg : QE X (.Name x p) ta) (ha : QA X (e :: es) t) (hs : noStars (e :: es) = true := by rfl) :
    QE X (.Call (.Name x p) (e :: es) [] pos) (tHeld ks E ta t) := ⟨fun pins s σ H Q I h => by
  have h' : (notStar e && noStars es) = true := hs
  refine wpAny_Call_Name_kw (thn (hg.out pins s σ H _ I h) fun u s1 ⟨y, H1, I1, ry, f, ey, ⟨ts, hts, cs, cvs, ca⟩, q⟩ => ?_)
  subst ey
  obtain rfl : u = Value.ref f := ry
  refine PySem.W.callWith_F (clo_fn I1.hok ca) (thn (ha.out pos pins s1 σ H1 _ I1 q) fun us s2 ⟨vs, H2, I2, rv, ts2, hm2, cs2, cvs2, ca2, hl, hsp⟩ => ⟨clo_fn I2.hok ca2, ?_⟩)
    (starEach_plain (Bool.and_eq_true_iff.mp h').1 es X.env) (noStars_any (Bool.and_eq_true_iff.mp h').2)
  refine wpAny_call (codeAny_mono ((hk ts2 hm2).run X.A X.stack s2 H2 f cs2 us vs cvs2 Q (E σ) hr I2.env0 ca2 rv hl hsp) fun r s' hq => ?_)
  cases r with
  | error e => exact hx pins σ H2 s2 e s' I2 hq
  | ok fl =>
    cases fl with
    | ret u => exact I2.after hq
    | next => exact False.elim hq
    | brk => exact False.elim hq
    | cont => exact False.elim hq⟩
end
end L2
namespace L2
open PySem PySem.Spec PyProof.Rows
structure EndsM where
  nx : St → Hp → Prop
  rt : St → VK
abbrev TSM := EndsM → St → Hp → Prop
def SPM (X : Cx) (pins : List (Addr × Obj)) (D : EndsM) (f : Flow) (s' : Shared) : Prop :=
  match f with
  | .next => ∃ σ' H', Inv X pins σ' H' s' ∧ D.nx σ' H'
  | .ret u => ∃ v σ' H', Inv X pins σ' H' s' ∧ RelV v u ∧ D.rt σ' v H'
  | _ => False
structure QM (X : Cx) (st : Stmt) (t : TSM) : Prop where
  out : ∀ (pins : List (Addr × Obj)) (s : Shared) (σ : St) (H : Hp) (D : EndsM), Inv X pins σ H s → t D σ H → wpAny (model X.prog X.w) X.A (exec st X.env) (SPM X pins D) X.xe s
structure QMs (X : Cx) (st : List Stmt) (t : TSM) : Prop where
  out : ∀ (pins : List (Addr × Obj)) (s : Shared) (σ : St) (H : Hp) (D : EndsM), Inv X pins σ H s → t D σ H → wpAny (model X.prog X.w) X.A (execs st X.env) (SPM X pins D) X.xe s
def mNext : TSM := fun D σ H => D.nx σ H
def mSeq (t u : TSM) : TSM := fun D σ H => t { D with nx := fun σ' H' => u D σ' H' } σ H
def mLift (t : TS) : TSM := fun D σ H => t { nx := D.nx, rt := fun _ _ => False } σ H
def mRet (te : TE) : TSM := fun D σ H => te σ H (D.rt σ)
def mIfM (c : TT) (t u : TSM) : TSM := fun D σ H => c σ H fun b H1 => Sel b (t D σ H1) (u D σ H1)
section
variable {X : Cx} {st : Stmt} {sts l m : List Stmt} {t u : TSM} {tS : TS} {e c : Expr} {te : TE} {tc : TT} {pos : Pos}
theorem y_lift (h : QS X st tS) : QM X st (mLift tS) := ⟨fun pins s σ H D I hq => thn (h.out pins s σ H _ I hq) fun f s1 q => by
  cases f with
  | next => exact q
  | ret v => obtain ⟨_, _, _, _, _, z⟩ := q; exact z.elim
  | brk => obtain ⟨_, _, _, z⟩ := q; exact z.elim
  | cont => obtain ⟨_, _, _, z⟩ := q; exact z.elim⟩
theorem y_ret (h : QE X e te) : QM X (.Return (some e) pos) (mRet te) := ⟨fun pins s σ H D I hq =>
  wpAny_Return_some (thn (h.out pins s σ H _ I hq) fun v s1 ⟨x, H1, I1, r1, q1⟩ => ⟨x, σ, H1, I1, r1, q1⟩)⟩
theorem y_if (hc : QT X c tc) (ha : QMs X l t) (hb : QMs X m u) : QM X (.If c l m pos) (mIfM tc t u) := ⟨fun pins s σ H D I h => by
  refine wpAny_If (thn (hc.out pins s σ H _ I h) fun d s1 ⟨H1, I1, q1⟩ => ?_)
  have q1 := sel_ite q1
  cases d with
  | true => exact ha.out pins s1 σ H1 D I1 q1
  | false => exact hb.out pins s1 σ H1 D I1 q1⟩
theorem y_nil : QMs X [] mNext := ⟨fun _ _ σ H _ I h => wpAny_execs_nil ⟨σ, H, I, h⟩⟩
theorem y_cons (h1 : QM X st t) (h2 : QMs X sts u) : QMs X (st :: sts) (mSeq t u) := ⟨fun pins s σ H D I h => by
  refine wpAny_execs_cons (thn (h1.out pins s σ H _ I h) fun f s1 q => ?_)
  cases f with
  | next =>
    obtain ⟨σ', H', I', q⟩ := q
    exact h2.out pins s1 σ' H' D I' q
  | ret v => exact q
  | brk => exact q
  | cont => exact q⟩
theorem y_one (h1 : QM X st t) : QMs X [st] t := ⟨fun pins s σ H D I h => by
  refine wpAny_execs_cons (thn (h1.out pins s σ H D I h) fun f s1 q => ?_)
  cases f with
  | next => exact wpAny_execs_nil q
  | ret v => exact q
  | brk => exact q
  | cont => exact q⟩
end
def trackC : List (Nat × Addr) → St → Hp → Hp
  | [], _, H => H
  | (i, c) :: r, σ, H => match σ[i]? with
    | some (some v) => trackC r σ (upd H c (cellO c v))
    | _ => trackC r σ H
theorem track_ok {P : Program} {w : World} {fs : List Addr} {H : Hp} {h h' : Heap} {σ : St} : ∀ (cs : List (Nat × Addr)) (H' : Hp), (cs.map (·.2)).Nodup → (∀ p ∈ cs, H' p.2 = none ∧ h.objs.size ≤ p.2 ∧ ∀ v, σ[p.1]? = some (some v) → ∃ u o, RelV v u ∧ h'.get? p.2 = some o ∧ o.data = .cell (some u)) →
    Un fs [] H H' h h' → HOk P w H' h' → Un fs [] H (trackC cs σ H') h h' ∧ HOk P w (trackC cs σ H') h'
  | [], H', _, _, u, ok => ⟨u, ok⟩
  | (i, c) :: r, H', nd, hc, u, ok => by
    unfold trackC
    have ndr := (List.nodup_cons.mp nd).2
    have hcr : ∀ p ∈ r, H' p.2 = none ∧ h.objs.size ≤ p.2 ∧ ∀ v, σ[p.1]? = some (some v) → ∃ u o, RelV v u ∧ h'.get? p.2 = some o ∧ o.data = .cell (some u) := fun p hp => hc p (List.mem_cons_of_mem _ hp)
    split
    · rename_i v hv
      obtain ⟨hn, hge, hcell⟩ := hc (i, c) List.mem_cons_self
      have hn : H' c = none := hn
      have hge : h.objs.size ≤ c := hge
      obtain ⟨uv, o, ru, eo, hd⟩ := hcell v hv
      have eo : h'.get? c = some o := eo
      refine track_ok r (upd H' c (cellO c v)) ndr (fun p hp => ⟨?_, (hcr p hp).2⟩) ⟨u.keep, u.slot, fun b ob e n hx => ?_, u.there, fun b xs e => ?_, fun b ob z e => ?_, fun b ps e => ?_⟩ fun b ob e => ?_
      · have : p.2 ≠ c := fun z => (List.nodup_cons.mp nd).1 (by rw [← z]; exact List.mem_map.mpr ⟨p, hp, rfl⟩)
        rw [upd_ne this]; exact (hcr p hp).1
      · rw [upd_ne (Nat.ne_of_lt (Nat.lt_of_lt_of_le (Heap.lt_size e) hge))]; exact u.free b ob e n hx
      · have z := u.tups b xs e; rw [upd_ne (ne_of_none z hn)]; exact z
      · have z := u.frzs b ob _ e; rw [upd_ne (ne_of_none z hn)]; exact z
      · obtain ⟨more, z⟩ := u.tbls b ps e; exact ⟨more, by rw [upd_ne (ne_of_none z hn)]; exact z⟩
      · by_cases hb : b = c
        · subst hb
          rw [upd_same] at e; cases e
          refine ⟨⟨uv, o, ru, eo, hd⟩, ⟨o, eo⟩, ?_⟩
          rintro h1 h2 ⟨u', o', r', e', d'⟩ k
          exact ⟨u', o', r', k _ e', d'⟩
        · rw [upd_ne hb] at e
          exact (ok b ob e).stay (fun a q _ z => z) (fun a q => by rw [upd_ne (ne_of_none q hn)]; exact q) fun a xs q => by rw [upd_ne (ne_of_none q hn)]; exact q
    · exact track_ok r H' ndr hcr u ok
theorem Fun.okM {P : Program} {w : World} {K : PySem.W.Frag} {mg : Str → Option Value} {base : Heap} {x qual : Str} {st : Stmt} {f c0 : Addr} {fd : FuncData} {N ps : List Str} {k : Nat} {sp : Sp} {caps : Nat → List (Nat × Addr)} (F : Fun K x qual st f fd) (hcd : fd.code = .ref c0) (S : FnScope N ps (defScope st)) (len : ∀ vs H Q E, sp vs H Q E → vs.length = ps.length)
    (hcaps : ∀ (L : Nat) (p : Nat × Addr), p ∈ caps L → ∃ y, N[p.1]? = some y ∧ (defScope st).names.lookup y = some .cell ∧ (cellsFrom (L + 1) (defScope st).names []).lookup y = some p.2) (hnd : ∀ L, ((caps L).map (·.2)).Nodup)
    (hbody : ∀ (A : Around) (outer : List Env) (s : Shared) (H : Hp) (vs : List V) (Q : VK) (E : XK), Room k (A.deeper (envOfC qual (defScope st) s.heap.objs.size f (.ref c0))) → sp vs H Q E →
      ∃ t, QMs (cxOf (CX1 P w) P w K mg base N qual (defScope st) f (.ref c0) A outer s H E) (defBody st) t ∧ t { nx := fun σ H' => (∀ p ∈ caps s.heap.objs.size, H' p.2 = none) → Q .non (trackC (caps s.heap.objs.size) σ H'), rt := fun σ v H' => (∀ p ∈ caps s.heap.objs.size, H' p.2 = none) → Q v (trackC (caps s.heap.objs.size) σ H') } (start N vs) H) : FnOk P w K mg base (CX1 P w) (k + 1) f fd ps sp := by
  obtain ⟨oc, od, kV, doc, pm, an, cdv, ct, osl, rfl, lk, hcd'⟩ := F.ex
  obtain rfl : cdv = .ref c0 := hcd
  refine ⟨len, fun A outer s H args us vs Q E hr e0 hb r hsp => ?_⟩
  have hl := len _ _ _ _ hsp
  have KX : K.In s.heap := e0.mod.kin.keeps fun b o e => (e0.bs b o e).1
  have lim : s.heap.NoLimit := e0.mod.nolimit.keeps fun b o e => (e0.bs b o e).1
  have hkind : ∀ y ∈ ps.zip us, (defScope st).names.lookup y.1 = some .local ∨ ((defScope st).names.lookup y.1 = some .cell ∧ ((cellsFrom (s.heap.objs.size + 1) (defScope st).names []).lookup y.1).isSome = true) := fun ⟨n, v⟩ hy => by
    rcases S.par n (List.of_mem_zip hy).1 with q | q
    · exact .inl q
    · exact .inr ⟨q, PySem.W.cellsFrom_some _ _ _ (.inl q)⟩
  refine codeAny_call_function hr.depth (KX _ _ lk) rfl S.co S.gen rfl (PySem.W.codeRec_of KX hcd') (hb _ _ _ _ ?_)
  refine wpAny_newFunctionEnv_cells S.kind hkind fun env he s1 x => ?_
  subst he
  refine ⟨lim.keeps x.toInCall.keep, codeAny_func ?_⟩
  obtain ⟨t, ht, hq⟩ := hbody A outer s H vs Q E (hr.deeper _) hsp
  have I : Inv (cxOf (CX1 P w) P w K mg base N qual (defScope st) f (.ref c0) A outer s H E) [] (start N vs) H s1 := inv_start S hr.hd e0 hl r x
  refine wpAny_mono (ht.out [] s1 (start N vs) H _ I hq) (fun fl s' hs => ?_) fun e s' hs => hs
  have fin : ∀ {σ' : St} {H' : Hp} {v : V} {u : Value}, Inv (cxOf (CX1 P w) P w K mg base N qual (defScope st) f (.ref c0) A outer s H E) [] σ' H' s' → RelV v u → ((∀ p ∈ caps s.heap.objs.size, H' p.2 = none) → Q v (trackC (caps s.heap.objs.size) σ' H')) → CE outer P w H s Q u s' :=
    fun {σ' H' v u} J rv q => by
      have free : ∀ p ∈ caps s.heap.objs.size, H' p.2 = none := fun p hp => by
        obtain ⟨y, _, _, hc⟩ := hcaps _ p hp
        exact J.freeC y p.2 hc
      have hcond : ∀ p ∈ caps s.heap.objs.size, H' p.2 = none ∧ s.heap.objs.size ≤ p.2 ∧ ∀ v, σ'[p.1]? = some (some v) → ∃ u o, RelV v u ∧ s'.heap.get? p.2 = some o ∧ o.data = .cell (some u) := fun p hp => by
        obtain ⟨y, hy, hk, hc⟩ := hcaps _ p hp
        refine ⟨free p hp, J.ok.cab y p.2 rfl hc, fun v hv => ?_⟩
        obtain ⟨m, _, hloc⟩ := J.loc
        obtain ⟨u', r', lk'⟩ := hloc p.1 y v hy hv (.inr (.inl hk))
        rcases lk' with ⟨z, _⟩ | ⟨_, c, ec, o, eo, hd⟩
        · have z : (defScope st).names.lookup y = some .local := z
          rw [hk] at z; cases z
        · have ec : (cellsFrom (s.heap.objs.size + 1) (defScope st).names []).lookup y = some c := ec
          rw [hc] at ec; cases ec
          exact ⟨u', o, r', eo, hd⟩
      obtain ⟨un, ok⟩ := track_ok (P := P) (w := w) (σ := σ') (caps s.heap.objs.size) H' (hnd _) hcond J.base J.hok
      exact ⟨v, _, J.os, J.bare, un, ok, rv, q free⟩
  cases fl with
  | ret u =>
    obtain ⟨v, σ', H', J, rv, q⟩ := hs
    exact fin J rv q
  | next =>
    obtain ⟨σ', H', J, q⟩ := hs
    exact fin (v := V.non) (u := Value.none) J rfl q
  | brk => exact False.elim hs
  | cont => exact False.elim hs
end L2
namespace L2
open PySem PySem.Spec PyProof.Rows
theorem law_callT {P : Program} {w : World} {K : PySem.W.Frag} {mg mb : Str → Option Value} {CX : CXT} {k : Nat} {fa a : Addr} {fd : FuncData} {x : Str} {sp : Sp} {s₁ : Shared} {vs : List Value} {ns : List Int} {tabs : List (Addr × Addr)}
    (KX : K.In s₁.heap) (hns : s₁.heap.Ns mainGlobals mg) (hb : s₁.heap.Ns builtinsNs mb) (hbb : ∀ x : Str, x ≠ "__name__" → mb x = bootBuiltins x) (hlim : s₁.heap.NoLimit) (hg : s₁.gens = #[]) (hB : BM mg s₁.heap)
    (hT : ∀ q ∈ tabs, PySem.W.CodeHd s₁.heap q.1 q.2 ∧ s₁.heap.get? q.2 = some (PySem.W.tabObj #[])) (hKT : PySem.W.noTabs K = true)
    (ha : s₁.heap.get? a = some { cls := .type "list", data := .seq vs.toArray }) (hi : IntsAre vs ns) (hl : ns.length ≤ sizeLine) (hr : Room k callerA)
    (F : ∀ base : Heap, K.In base → base.Ns mainGlobals mg → BM mg base → (∀ q ∈ tabs, PySem.W.CodeHd base q.1 q.2) → FnOk P w K mg base CX k fa fd [x] sp) (hbind : ∀ (s : Shared) (u : Value), BindsTo s fd ⟨[u], []⟩ [(x, u)])
    (hsp : ∀ H : Hp, (∀ q ∈ tabs, H q.2 = some (.tbl #[])) → SqL K H a (ns.map V.int) → sp [.ref a] H (fun v _ => v = .bl true) fun _ _ _ => False)
    (hCX : ∀ H e s', CX [] H s₁ (fun _ _ _ => False) e s' → False) :
    codeAny (model P w) callerA (.call (.ref fa) ⟨[.ref a], []⟩) (fun r s' => r = .ok (.ret (.bool true)) ∧ OldK s₁.heap s'.heap ∧ s'.os = s₁.os ∧ AllBare s'.gens) s₁ := by
  have rv := vals_ints hi
  have lenV := hi.length
  have tabK : ∀ q ∈ tabs, K.lookup q.2 = none := fun q hq => by
    cases e : K.lookup q.2 with
    | none => rfl
    | some o =>
      have e2 := KX _ _ e
      rw [(hT q hq).2] at e2; cases e2
      have := List.all_eq_true.mp hKT _ (PySem.W.mem_of_lookupK e)
      exact absurd (show false = true from this) Bool.false_ne_true
  have tabA : ∀ q ∈ tabs, q.2 ≠ a := fun q hq e => by
    have e2 := (hT q hq).2
    rw [e, ha] at e2; cases e2
  have core : ∀ H : Hp, (∀ q ∈ tabs, H q.2 = some (.tbl #[])) → SqL K H a (ns.map V.int) → HOk P w H s₁.heap → (∀ b, H b ≠ none → (b = a ∧ ∃ o xs, H b = some (.frz o (.lst xs))) ∨ ∃ q ∈ tabs, q.2 = b) → (∀ b, H b ≠ none → K.lookup b = none) →
      codeAny (model P w) callerA (.call (.ref fa) ⟨[.ref a], []⟩) (fun r s' => r = .ok (.ret (.bool true)) ∧ OldK s₁.heap s'.heap ∧ s'.os = s₁.os ∧ AllBare s'.gens) s₁ := by
    intro H hO hS hok hA hK
    have base_of : ∀ {b : Addr} {o : Obj}, s₁.heap.get? b = some o → H b = none → (hidT s₁.heap H).get? b = some o := fun e n => hidT_get e n
    have noA : ∀ {b : Addr} {o : Obj}, s₁.heap.get? b = some o → o.cls ≠ .none → o.cls ≠ .type "list" → H b = none := fun {b o} e c1 c2 => by
      cases q : H b with
      | none => rfl
      | some u =>
        rcases hA b (by rw [q]; simp) with ⟨rfl, _⟩ | ⟨p, hp, rfl⟩
        · rw [ha] at e; cases e; exact absurd rfl c2
        · rw [(hT p hp).2] at e; cases e; exact absurd rfl c1
    have noD : ∀ {b : Addr} {o : Obj} {es : Array DictEntry} {ep : Nat}, s₁.heap.get? b = some o → o.data = .dict es ep → H b = none := fun {b o es ep} e d => by
      cases q : H b with
      | none => rfl
      | some u =>
        rcases hA b (by rw [q]; simp) with ⟨rfl, _⟩ | ⟨p, hp, rfl⟩
        · rw [ha] at e; cases e; cases d
        · rw [(hT p hp).2] at e; cases e; cases d
    have nsK : ∀ {b : Addr} {m : Str → Option Value}, s₁.heap.Ns b m → (hidT s₁.heap H).Ns b m := fun {b m} ⟨o, es, ep, e, d, r⟩ => ⟨o, es, ep, base_of e (noD e d), d, r⟩
    have hKb : K.In (hidT s₁.heap H) := fun b o e => base_of (KX b o e) (by
      cases q : H b with
      | none => rfl
      | some u => rw [hK b (by rw [q]; simp)] at e; cases e)
    have hBb : BM mg (hidT s₁.heap H) := by
      obtain ⟨bm, ob, b1, b2, b3, b4, b5, b6⟩ := hB
      exact ⟨bm, ob, b1, b2, base_of b3 (noA b3 (by rw [b4]; intro z; cases z) (by rw [b4]; intro z; exact absurd (Value.type.inj z) (by decide))), b4, b5, b6⟩
    have hCb : ∀ q ∈ tabs, PySem.W.CodeHd (hidT s₁.heap H) q.1 q.2 := fun q hq => by
      obtain ⟨o, vs, file, tf, flags, tg, inF, text, tt, e1, e2, r⟩ := (hT q hq).1
      exact ⟨o, vs, file, tf, flags, tg, inF, text, tt, base_of e1 (noA e1 (by rw [e2]; intro z; cases z) (by rw [e2]; intro z; exact absurd (Value.type.inj z) (by decide))), e2, r⟩
    have hM : Mod K mg (hidT s₁.heap H) := ⟨hKb, nsK hns, ⟨mb, nsK hb, hbb⟩, let ⟨mc, h1, h2⟩ := hlim; ⟨mc, nsK h1, h2⟩⟩
    have e0 : Env0 P w K mg (hidT s₁.heap H) callerA [] s₁ H := ⟨rfl, hM, fun b o e => of_hidT e, Nat.le_of_eq (hidT_size _ _), trivial, fun b hb => absurd (show b ∈ ([] : List Addr) from hb) (by simp), hok, .of_eq hg⟩
    refine codeAny_mono ((F _ hKb (nsK hns) hBb hCb).run callerA [] s₁ H ⟨[.ref a], []⟩ [.ref a] [.ref a] _ _ hr e0 (hbind s₁ (.ref a)) (.cons rfl .nil) (hsp H hO hS)) fun r s' h => ?_
    cases r with
    | error e => exact (hCX H e s' h).elim
    | ok fl =>
      cases fl with
      | next => exact False.elim h
      | brk => exact False.elim h
      | cont => exact False.elim h
      | ret u =>
        obtain ⟨v, H', os, bare, un, hok', r', q⟩ := h
        have q' : v = .bl true := q
        subst q'
        obtain rfl : u = Value.bool true := r'
        have all : ∀ b o, s₁.heap.get? b = some o → s'.heap.get? b = some o ∨ ∃ q ∈ tabs, q.2 = b ∧ ∃ more, s'.heap.get? b = some (PySem.W.tabObj more) := fun b o e => by
          cases q : H b with
          | none => exact .inl (un.keep b o e q (by intro z; exact absurd (show b ∈ ([] : List Addr) from z) (by simp)) (by simp))
          | some u =>
            rcases hA b (by rw [q]; simp) with ⟨rfl, ob, xs, z⟩ | ⟨p, hp, rfl⟩
            · have z2 := un.frzs b ob _ z
              obtain ⟨e1, _⟩ := hok b _ z
              obtain ⟨e2, _⟩ := hok' b _ z2
              rw [e] at e1; cases e1
              exact .inl e2
            · obtain ⟨more, z2⟩ := un.tbls p.2 _ (hO p hp)
              exact .inr ⟨p, hp, rfl, _, hok' p.2 _ z2⟩
        refine ⟨rfl, ⟨fun b o e => ?_, fun b o e => ?_⟩, os, bare⟩
        · rcases all b o e with z | ⟨p, hp, rfl, more, z⟩
          · exact .inl z
          · have e2 := (hT p hp).2
            rw [e] at e2; cases e2
            exact .inr (.inl ⟨((hT p hp).1.tab (hT p hp).2).isCodeTable, rfl, #[], more, rfl, by rw [Array.empty_append]; exact z⟩)
        · rcases all b o e with z | ⟨p, hp, rfl, more, z⟩
          · exact ⟨_, z⟩
          · exact ⟨_, z⟩
  cases hk : K.lookup a with
  | some o =>
    have e := KX a o hk
    rw [ha] at e
    cases e
    refine core (fun b => if b ∈ tabs.map (·.2) then some (.tbl #[]) else none) (fun q hq => if_pos (List.mem_map.mpr ⟨q, hq, rfl⟩)) (.inr ⟨_, vs.toArray, _, hk, rfl, rfl, rfl, by rw [List.size_toArray, lenV]; exact hl, by simpa using rv⟩) (fun b u z => ?_) (fun b z => ?_) fun b z => ?_
    · by_cases hb : b ∈ tabs.map (·.2)
      · have z' := (if_pos hb).symm.trans z
        cases z'
        obtain ⟨q, hq, rfl⟩ := List.mem_map.mp hb
        exact (hT q hq).2
      · have z' := (if_neg hb).symm.trans z
        cases z'
    · by_cases hb : b ∈ tabs.map (·.2)
      · obtain ⟨q, hq, e⟩ := List.mem_map.mp hb
        exact .inr ⟨q, hq, e⟩
      · exact absurd (if_neg hb) z
    · by_cases hb : b ∈ tabs.map (·.2)
      · obtain ⟨q, hq, rfl⟩ := List.mem_map.mp hb
        exact tabK q hq
      · exact absurd (if_neg hb) z
  | none =>
    refine core (fun b => if b = a then some (.frz { cls := .type "list", data := .seq vs.toArray } (.lst (ns.map V.int))) else if b ∈ tabs.map (·.2) then some (.tbl #[]) else none)
      (fun q hq => by show (if q.2 = a then _ else _) = _; rw [if_neg (tabA q hq), if_pos (List.mem_map.mpr ⟨q, hq, rfl⟩)]) (.inl (.inr ⟨{ cls := .type "list", data := .seq vs.toArray }, if_pos rfl⟩)) (fun b u z => ?_) (fun b z => ?_) fun b z => ?_
    · by_cases hb : b = a
      · have z' := (if_pos hb).symm.trans z
        cases z'
        subst hb
        exact ⟨ha, by rw [List.length_map]; exact hl, vs, _, rv, ha⟩
      · have z' : (if b ∈ tabs.map (·.2) then some (HO.tbl #[]) else none) = some u := (if_neg hb).symm.trans z
        by_cases hb2 : b ∈ tabs.map (·.2)
        · rw [if_pos hb2] at z'; cases z'
          obtain ⟨q, hq, rfl⟩ := List.mem_map.mp hb2
          exact (hT q hq).2
        · rw [if_neg hb2] at z'; cases z'
    · by_cases hb : b = a
      · exact .inl ⟨hb, _, _, if_pos hb⟩
      · by_cases hb2 : b ∈ tabs.map (·.2)
        · obtain ⟨q, hq, e⟩ := List.mem_map.mp hb2
          exact .inr ⟨q, hq, e⟩
        · exact absurd ((if_neg hb).trans (if_neg hb2)) z
    · by_cases hb : b = a
      · rw [hb]; exact hk
      · by_cases hb2 : b ∈ tabs.map (·.2)
        · obtain ⟨q, hq, rfl⟩ := List.mem_map.mp hb2
          exact tabK q hq
        · exact absurd ((if_neg hb).trans (if_neg hb2)) z
theorem walk_ofT {l : PySem.W.OpenLaw} {n k : Nat} {q : Program} {loose : List Str} {XP : (Str → Option Value) → Heap → Prop} {YP : World → Heap → Prop} {d : DefRec} {K : Params → PySem.W.Frag} {CX : World → CXT} {x : Str} {names : List Str}
    (hn : l.most = some n) (hn2 : n ≤ sizeLine) (hdf : d.params.defaults = []) (hr : Room k callerA)
    (hY : ∀ (w : World) (h : Heap), YP w h → (K w.params).In h)
    (hq : ∀ y ∈ names, ((PyProof.Rows.recsOf q).find? fun e => e.name == y).isSome = true)
    (F : ∀ (w : World) (mg : Str → Option Value) (fa : Addr) (h : Heap), (K w.params).In h → h.Ns mainGlobals mg → mg d.name = some (.ref fa) →
      ∃ (fd : FuncData) (tabs : List (Addr × Addr)) (sp : Sp), (∀ (s : Shared) (u : Value), BindsTo s fd ⟨[u], []⟩ [(x, u)]) ∧ PySem.W.noTabs (K w.params) = true ∧ (∀ t ∈ tabs, ∃ y ∈ names, PySem.W.tabIn (K w.params) y = some t) ∧
        (∀ base : Heap, (K w.params).In base → base.Ns mainGlobals mg → BM mg base → (∀ t ∈ tabs, PySem.W.CodeHd base t.1 t.2) → FnOk l.prog w (K w.params) mg base (CX w) k fa fd [x] sp) ∧
        ∀ (H : Hp) (a : Addr) (ns : List Int), ns.length ≤ n → (∀ t ∈ tabs, H t.2 = some (.tbl #[])) → SqL (K w.params) H a (ns.map V.int) → sp [.ref a] H (fun v _ => v = .bl true) fun _ _ _ => False)
    (hCX : ∀ (w : World) (H : Hp) (s : Shared) (e : Value) (s' : Shared), CX w [] H s (fun _ _ _ => False) e s' → False) :
    PySem.W.WalkO q loose XP YP l.row.toRowW d [] (fun f vs => PySem.call f vs) := by
  refine Att.attach_call hn hdf fun w s₀ s₁ mg mb fa o pm cd doc a vs ns G Y ho hd hcd hmg hobj hints hlen hg => ?_
  have KX := hY w _ Y
  obtain ⟨fd, tabs, sp, hb, hKT, htabs, hF, hsp⟩ := F w mg fa _ KX G.T.g hmg
  refine law_callT (tabs := tabs) KX G.T.g G.T.b G.T.builtins G.T.nolimit hg G.T.bmain (fun t ht => ?_) hKT hobj hints (Nat.le_trans hlen hn2) hr hF hb (fun H hO hS => hsp H a ns hlen hO hS) fun H e s' => hCX w H s₁ e s'
  obtain ⟨y, hy, e⟩ := htabs t ht
  obtain ⟨dd, hdd⟩ := Option.isSome_iff_exists.mp (hq y hy)
  exact PySem.W.tab_of G.T KX hdd e
end L2
namespace L2
open PySem PySem.Spec PyProof.Rows
section
variable {X : Cx}
theorem SPM.unwish {E : Value → Shared → Prop} {pins : List (Addr × Obj)} {D : EndsM} {f : Flow} {s' : Shared} (h : SPM (X.wish E) pins D f s') : SPM X pins D f s' := by
  cases f with
  | next => obtain ⟨σ', H', I, q⟩ := h; exact ⟨σ', H', I.unwish, q⟩
  | brk => exact h
  | cont => exact h
  | ret u => obtain ⟨v, σ', H', I, r, q⟩ := h; exact ⟨v, σ', H', I.unwish, r, q⟩
theorem QMs.nox {st : List Stmt} {t : TSM} (h : QMs X.nox st t) : QMs X st t := ⟨fun pins s σ H D I hw =>
  wpAny_mono (h.out pins s σ H D (I.wish _) hw) (fun _ _ q => SPM.unwish q) fun _ _ z => False.elim z⟩
theorem CloOk.mono {P : Program} {w : World} {K : PySem.W.Frag} {mg : Str → Option Value} {base : Heap} {j k : Nat} {t : CloT} {sp : Sp} (F : CloOk P w K mg base j t sp) (h : j ≤ k) : CloOk P w K mg base k t sp :=
  ⟨fun A outer s H f cs us vs cvs Q E hr => F.run A outer s H f cs us vs cvs Q E (hr.mono h)⟩
def rSetDef : V → List V → Hp → VK → Prop := fun x vs H Q => ∃ a y d r H', x = .ref a ∧ vs = [y, d] ∧ DDef H a y d r H' ∧ Q r H'
theorem mt_setdef (hu : X.A.units + 1 < cLine) : MtR X "dict.setdefault" rSetDef := by
  intro pins s σ H x xs v us Q I rx rs h
  obtain ⟨a, y, d, r, H', rfl, rfl, g, q⟩ := h
  obtain rfl : v = Value.ref a := rx
  obtain ⟨uy, ud, rfl, ry, rd⟩ := vals2 rs
  rcases g with ⟨g, rfl⟩ | ⟨g, p, rfl⟩
  · rcases g with ⟨kvs, k, e, rfl, l⟩ | ⟨kvs, k, b, e, rfl, eb, l⟩
    · obtain ⟨z, hd, vs, rel, dd⟩ := dk_rd I.hok e
      obtain ⟨w', hw, rw'⟩ := RelO.some_of (v := r) (o := valueAt vs k) (by rw [l]; exact rel.val k)
      exact call_meetsIn PySem.F.slot_dict_setdefault dd.typeIs PySem.F.entry_dict_setdefault (PySem.F.args_dict_setdefault_3 _ _ _) (kt_meets_setdefault (mixKind X.prog X.w) a (kV_is ry) hd ud)
        ⟨vs, dd, by rw [← rel.length]; exact z, (fun v' hv' => by rw [hw] at hv'; cases hv'; exact ⟨r, H', I.tok _, rw', q⟩), (fun hn => by rw [hw] at hn; cases hn)⟩
    · cases (show uy = Value.ref b from ry)
      obtain ⟨z, hd, xs, rel, dd⟩ := dt_rd I.hok e
      obtain ⟨w', hw, rw'⟩ := RelO.some_of (v := r) (o := (atKey xs k).map (·.2)) (by rw [l]; exact rel.val k)
      obtain ⟨pp, hp, hp2⟩ := Option.map_eq_some_iff.mp hw
      refine wpAny_call_entry PySem.F.slot_dict_setdefault dd.typeIs PySem.F.entry_dict_setdefault ?_ (PySem.F.args_dict_setdefault_3 _ _ _)
      unfold Builtin.«dict.setdefault»
      refine wpAny_bind ?_
      unfold Builtin.Dict.keyAndDefault
      refine wpAny_bind (wpAny_notOrdered_dict dd.typeIs ?_)
      show wpAny _ _ (pure (a, Value.ref b, some ud)) _ _ s
      refine wpAny_pure ?_
      show wpAny _ _ (if (a == sysModules) = true then _ else (dictSetDefault a (.ref b) ud >>= _)) _ _ s
      rw [if_neg (by rw [hd]; exact Bool.false_ne_true)]
      refine wpAny_bind (dictSetDefault_heap (tupleKind_room_in1 hu) (key_of I.hok eb) dd (fun p' hp' => ?_) (fun hn => ?_) (by rw [← Paired.length rel]; exact z))
      · rw [hp] at hp'; cases hp'
        exact wpAny_pure ⟨_, rfl, ⟨r, H', I.tok _, by rw [hp2]; exact rw', q⟩⟩
      · rw [hp] at hn; cases hn
  · rcases g with ⟨kvs, k, e, rfl, l⟩ | ⟨kvs, k, b, e, rfl, eb, l⟩
    · rcases p with ⟨kvs', k', e', ey, lz, rfl⟩ | ⟨kvs', k', b', e', ey, _⟩
      · have ek : k = k' := by cases k <;> cases k' <;> first | (cases ey; rfl) | cases ey
        subst ek
        obtain ⟨z, hd, vs, rel, dd⟩ := dk_of I.hok e'
        have ee : kvs = kvs' := by
          rcases e with e | ⟨o, e⟩
          · rw [e'] at e; cases e; rfl
          · rw [e'] at e; cases e
        subst ee
        have hn : valueAt vs k = none := RelO.none_of (by rw [l]; exact rel.val k)
        refine call_meetsIn PySem.F.slot_dict_setdefault dd.typeIs PySem.F.entry_dict_setdefault (PySem.F.args_dict_setdefault_3 _ _ _) (kt_meets_setdefault (mixKind X.prog X.w) a (kV_is ry) hd ud)
          ⟨vs, dd, by rw [← rel.length]; exact z, (fun v' hv' => by rw [hn] at hv'; cases hv'), fun _ h' dd' hs => ?_⟩
        have he : ∃ q, h'.get? a = some q := let ⟨q, _, _, hq, _⟩ := dd'; ⟨q, hq⟩
        have hl : (putK kvs k r).length ≤ sizeLine := by have := length_putK kvs k r; omega
        exact ⟨r, _, d_write I (by rw [e']; exact True.intro) hs he (dk_new hl hd (rel.put k rd) dd'), rd, q⟩
      · cases k <;> cases ey
    · rcases p with ⟨kvs', k', e', ey, _⟩ | ⟨kvs', k', b', e', ey, eb', lz, rfl⟩
      · cases k' <;> cases ey
      · cases ey
        have ek : k = k' := kVs_inj (HO.tup.inj (Option.some.inj (eb.symm.trans eb')))
        subst ek
        cases (show uy = Value.ref b from ry)
        obtain ⟨z, hd, xs, rel, dd⟩ := dt_of I.hok e'
        have ee : kvs = kvs' := by
          rcases e with e | ⟨o, e⟩
          · rw [e'] at e; cases e; rfl
          · rw [e'] at e; cases e
        subst ee
        have hn : atKey xs k = none := by
          have := RelO.none_of (o := (atKey xs k).map (·.2)) (by rw [l]; exact rel.val k)
          exact Option.map_eq_none_iff.mp this
        refine wpAny_call_entry PySem.F.slot_dict_setdefault dd.typeIs PySem.F.entry_dict_setdefault ?_ (PySem.F.args_dict_setdefault_3 _ _ _)
        unfold Builtin.«dict.setdefault»
        refine wpAny_bind ?_
        unfold Builtin.Dict.keyAndDefault
        refine wpAny_bind (wpAny_notOrdered_dict dd.typeIs ?_)
        show wpAny _ _ (pure (a, Value.ref b, some ud)) _ _ s
        refine wpAny_pure ?_
        show wpAny _ _ (if (a == sysModules) = true then _ else (dictSetDefault a (.ref b) ud >>= _)) _ _ s
        rw [if_neg (by rw [hd]; exact Bool.false_ne_true)]
        refine wpAny_bind (dictSetDefault_heap (tupleKind_room_in1 hu) (key_of I.hok eb) dd (fun p' hp' => ?_) (fun _ h' dd' hs => ?_) (by rw [← Paired.length rel]; exact z))
        · rw [hn] at hp'; cases hp'
        · obtain ⟨q', es, ep, hq, h2, h3, h4, _, h5⟩ := dd'
          have hl : (putK kvs k r).length ≤ sizeLine := by have := length_putK kvs k r; omega
          refine wpAny_pure ⟨_, rfl, ⟨r, _, d_write (ob := .dT (putK kvs k r)) I (by rw [e']; exact True.intro) hs ⟨q', hq⟩ ⟨hl, hd, _, (rel.put k eb rd).keeps fun c ys ec => ?_, q', es, ep, hq, h2, h3, h4, h5⟩, rd, q⟩⟩
          rw [upd_ne (ne_of ec e' (fun z => nomatch z))]
          exact ec
def Its (z : Str) : It := ⟨fun i _ => i < z.length, fun i H x H' => H' = H ∧ ∃ c, z.cps[i]? = some c ∧ x = .str ⟨#[c]⟩, fun i _ => z.length ≤ i⟩
theorem turn_str {P : Program} {w : World} {K : PySem.W.Frag} {tg : Expr} (z : Str) (t : Tok) (it : Addr) : Turn P w K tg (Its z) [it] it (fun i h => h.IsStrIter it "str_ascii_iterator" z t i) where
  mem := by simp
  obj := fun i h st b hb => by
    have e : b = it := by simpa using hb
    subst e
    obtain ⟨o, e, c, d⟩ := st
    exact ⟨o, e, fun v z => by rw [d] at z; cases z⟩
  keep := fun i h h' st k => let ⟨o, ho, r⟩ := st; ⟨o, k it (by simp) o ho, r⟩
  item := by
    intro X hP hw hK hc i pins s σ H E I hf st hg
    subst hP hw hK
    obtain ⟨f0, f1, f2, f3, f4, f5⟩ := hf it (by simp)
    have hi : i < z.cps.size := hg
    refine wpAny_pyNext_ascii_item st (c := z.cps[i]) (Array.getElem?_eq_getElem hi) fun h' st' sb => ?_
    have I1 : Inv X pins σ H { s with heap := h', toks := s.toks + 1 } := I.turned (t' := s.toks + 1) (fun b o hb e => (sb.2 b hb).trans e) f0 f1 f3 f4 f5
    obtain ⟨o, e, c, d⟩ := id st'
    exact ⟨_, rfl, go_of (s := { s with heap := h', toks := s.toks + 1 }) e c d (by decide) ⟨.str ⟨#[z.cps[i]]⟩, H, I1, ⟨_, rfl⟩, ⟨rfl, _, Array.getElem?_eq_getElem hi, rfl⟩, st', fun b hb => (hf b hb).1⟩⟩
  done := by
    intro X hP hw hK hc i pins s σ H E I hf st hg
    subst hP hw hK
    obtain ⟨f0, f1, f2, f3, f4, f5⟩ := hf it (by simp)
    exact wpAny_pyNext_ascii_end (I.ok.hd hc) st (Array.getElem?_eq_none (show z.cps.size ≤ i from hg)) fun h' eb => ⟨rfl, I.turned (t' := s.toks) (fun b o hb e => eb b o hb e) f0 f1 f3 f4 f5⟩
  self := fun A i s Q E st h => by
    refine wpAny_pyIter_slot st.typeIs F.slot_str_ascii_iterator_iter (wpAny_call_entry F.slot_str_ascii_iterator_iter st.typeIs F.entry_str_ascii_iterator_iter ?_ (F.args_str_ascii_iterator_iter_1 _))
    show wpAny _ _ (ret (.ref it)) _ _ s
    exact wpAny_pure ⟨_, rfl, "str_ascii_iterator", _, st.typeIs, F.slot_str_ascii_iterator_next.lookup, h⟩
variable {a : Expr} {ta : TE} {tg : Expr}
def iSeqA (K : PySem.W.Frag) (tl : TE) : TI := fun σ H R => tl σ H fun x H1 => match x with
  | .str z => z.cps.all (· < 128) = true ∧ R (Its z) H1
  | x => ∃ a, x = .ref a ∧ (((∃ xs, SqL K H1 a xs) ∧ R (Itl K a) H1) ∨ ((∃ xs, SqT K H1 a xs) ∧ R (Itt K a) H1))
theorem x_seqA (h : QE X a ta) : QI X tg a (iSeqA X.K ta) := ⟨fun pins s σ H R I hw => by
  refine thn (h.out pins s σ H _ I hw) fun v s1 ⟨x, H1, I1, r1, q1⟩ => ?_
  cases x with
  | str z =>
    obtain ⟨t, rfl⟩ := r1
    refine wpAny_pyIter_ascii q1.1 ?_
    refine ⟨s1.heap.objs.size, [s1.heap.objs.size], _, _, H1, rfl, I1.kept (t' := s1.toks) fun b o e => Heap.get?_push_of_some _ e, turn_str z t _, ⟨_, Heap.get?_push_size _ rfl, rfl, rfl⟩, fun b hb => ?_, q1.2⟩
    have e : b = s1.heap.objs.size := by simpa using hb
    subst e
    exact I1.fpOk (Nat.le_refl _) (I1.hok.fresh (Nat.le_refl _))
  | ref c =>
    obtain ⟨a, e, q⟩ := q1
    cases e
    cases r1
    rcases q with ⟨⟨xs, hq⟩, q⟩ | ⟨⟨xs, hq⟩, q⟩
    · obtain ⟨its, rv, p, hz⟩ := I1.list hq
      refine wpAny_pyIter_list (plain_is p) ?_
      refine ⟨s1.heap.objs.size, [s1.heap.objs.size], _, _, H1, rfl, I1.kept (t' := s1.toks) fun b o e => Heap.get?_push_of_some _ e, turn_list _ _, ⟨_, Heap.get?_push_size _ rfl, rfl, rfl⟩, fun b hb => ?_, q⟩
      have e : b = s1.heap.objs.size := by simpa using hb
      subst e
      exact I1.fpOk (Nat.le_refl _) (I1.hok.fresh (Nat.le_refl _))
    · obtain ⟨its, rv, p, hz⟩ := I1.tuple hq
      refine wpAny_pyIter_tuple (show s1.heap.IsTuple c its.toArray from p) ?_
      refine ⟨s1.heap.objs.size, [s1.heap.objs.size], _, _, H1, rfl, I1.kept (t' := s1.toks) fun b o e => Heap.get?_push_of_some _ e, turn_tuple _ _, ⟨_, Heap.get?_push_size _ rfl, rfl, rfl⟩, fun b hb => ?_, q⟩
      have e : b = s1.heap.objs.size := by simpa using hb
      subst e
      exact I1.fpOk (Nat.le_refl _) (I1.hok.fresh (Nat.le_refl _))
  | _ => obtain ⟨_, e, _⟩ := q1; cases e⟩
def mMulA : R2 := fun x y H Q => match x, y with
  | .str z, .int n => (-1000 ≤ n ∧ n ≤ 1000 ∧ z.length ≤ 1000) ∧ Q (.str (Txt.mul z n)) H
  | x, y => mMul x y H Q
theorem op_mulS : OpR X (binaryOp .Mult) (fun x y H Q => ∃ z n, x = .str z ∧ y = .int n ∧ (-1000 ≤ n ∧ n ≤ 1000 ∧ z.length ≤ 1000) ∧ Q (.str (Txt.mul z n)) H) := by
  intro pins s σ H x y v u Q I rx ry h
  obtain ⟨z, n, rfl, rfl, ⟨h1, h2, h3⟩, q⟩ := h
  obtain ⟨t, rfl⟩ := rx
  obtain ⟨t', rfl⟩ := ry
  refine SB.mul ⟨?_, fun hn _ => ?_, fun hn _ => ?_⟩ fun t' k => ⟨.str _, H, I.tok k, ⟨_, rfl⟩, q⟩
  · rw [decide_eq_false (by omega), decide_eq_false (by omega)]; rfl
  · intro hgt
    have h5 : (1000 : Int) ≤ (2 ^ 63 - 1) / n := Int.le_ediv_of_mul_le (by omega) (by omega)
    omega
  · have h6 : z.length * n.toNat ≤ 1000 * 1000 := Nat.mul_le_mul h3 (by omega)
    exact decide_eq_false (by rw [sizeLine_eq]; omega)
theorem oMulA : OpR X (binaryOp .Mult) mMulA := (op_mulS.or oMul).imp fun x y H Q q => by
  unfold mMulA at q
  split at q
  · exact .inl ⟨_, _, rfl, rfl, q.1, q.2⟩
  · exact .inr q
end
end L2
namespace L2
open PySem PySem.Spec PyProof.Rows
theorem for_by {J : It} {n : Nat} {it : Nat → V} {Pk : Hp → Prop} {g : TG} {tb : TS} {D : Ends} {σ : St} {H : Hp} (T : Items J n it Pk) (Pv : Nat → St → Hp → Prop) (h0 : Pv 0 σ H) (hl : ∀ i σ H, i ≤ n → Pv i σ H → Pk H)
    (hs : ∀ i σ H, i < n → Pv i σ H → g (it i) σ H fun σ2 H2 => tb { D with nx := Pv (i + 1), ct := Pv (i + 1), bk := D.nx } σ2 H2) (hd : ∀ σ H, Pv n σ H → D.nx σ H) :
    ∃ W : Nat → Nat → St → Hp → Prop, (∃ m, W 0 m σ H) ∧ ∀ i m σ H, W i m σ H →
      (J.stop i H ∧ D.nx σ H) ∨ (J.go i H ∧ ∃ N : St → Hp → Prop, (∀ σ' H', N σ' H' → ∃ m', m' < m ∧ W (i + 1) m' σ' H') ∧ ∀ x H', J.yld i H x H' → g x σ H' fun σ2 H2 => tb { D with nx := N, ct := N, bk := D.nx } σ2 H2) := by
  refine ⟨fun i m σ H => m = n - i ∧ i ≤ n ∧ Pv i σ H, ⟨n, by simp, Nat.zero_le _, h0⟩, ?_⟩
  rintro i m σ H ⟨rfl, hi, p⟩
  have q := hl i σ H hi p
  by_cases hlt : i < n
  · refine .inr ⟨T.go i H hlt q, Pv (i + 1), fun σ' H' p' => ⟨n - (i + 1), by omega, rfl, hlt, p'⟩, fun x H' y => ?_⟩
    obtain ⟨rfl, rfl⟩ := T.yld i H x H' hlt q y
    exact hs i σ _ hlt p
  · have e : i = n := by omega
    subst e
    exact .inl ⟨T.stop H q, hd σ H p⟩
theorem Items.str (z : Str) : Items (Its z) z.length (fun i => .str ⟨#[z.cps.getD i 0]⟩) (fun _ => True) where
  go := fun i H hi _ => hi
  yld := fun i H x H' hi _ y => ⟨y.1, by obtain ⟨_, c, hc, rfl⟩ := y; simp [Array.getD_eq_getD_getElem?, hc]⟩
  stop := fun H _ => Nat.le_refl _
theorem foldl_take {α β : Type} (f : β → α → β) (b : β) (l : List α) (i : Nat) (x : α) (h : l[i]? = some x) : (l.take (i + 1)).foldl f b = f ((l.take i).foldl f b) x := by
  rw [List.take_succ, h]; simp
theorem map_get {α β : Type} {f : α → β} {l : List α} {i : Nat} {x : β} (h : (l.map f)[i]? = some x) : ∃ a, l[i]? = some a ∧ x = f a := by
  rw [List.getElem?_map] at h
  cases e : l[i]? with
  | none => rw [e] at h; cases h
  | some a => rw [e] at h; cases h; exact ⟨a, rfl, rfl⟩
theorem CloAt.keep {H H' : Hp} {f : Addr} {t : CloT} {cs : List Addr} {cvs : List V} (k : ∀ b φ, H b = some (.ext φ) → H' b = some (.ext φ)) (c : CloAt H f t cs cvs) : CloAt H' f t cs cvs := by
  obtain ⟨⟨a, h1, h2⟩, h3⟩ := c
  refine ⟨⟨a, k _ _ h1, k _ _ h2⟩, ?_⟩
  clear h1 h2
  induction h3 with
  | nil => exact .nil
  | cons r t ih => exact .cons (k _ _ r) ih
theorem plain_kVs (k : List Key) : (k.map kV).all plainP = true := by
  rw [List.all_map, List.all_eq_true]
  intro x _
  cases x <;> rfl
theorem eqT_keys {K : PySem.W.Frag} {H : Hp} {Q : VK} {a b : Addr} {k l : List Key} (ha : H a = some (.tup (k.map kV))) (hb : H b = some (.tup (l.map kV))) (q : Q (.bl (decide (k = l))) H) : mEqB K (.ref a) (.ref b) H Q := by
  refine .inl ⟨a, b, _, _, rfl, rfl, SqT.of ha, SqT.of hb, plain_kVs _, plain_kVs _, ?_⟩
  by_cases e : k = l
  · subst e; rw [decide_eq_true rfl] at q ⊢; exact q
  · rw [decide_eq_false e] at q; rw [decide_eq_false fun z => e (kVs_inj z)]; exact q
def dKey : Key → PyData
  | .inl i => .int i
  | .inr z => .str z
theorem datVs_keys {K : PySem.W.Frag} {H : Hp} : ∀ k : List Key, DatVs K H (k.map kV) (k.map dKey)
  | [] => .nil
  | .inl i :: r => .cons (.int i) (datVs_keys r)
  | .inr z :: r => .cons (.str z) (datVs_keys r)
theorem datV_tup {K : PySem.W.Frag} {H : Hp} {a : Addr} {k : List Key} (h : H a = some (.tup (k.map kV))) : DatV K H (.ref a) (.tuple (k.map dKey)) := .tup (SqT.of h) (datVs_keys k)
theorem eqvAll_keys : ∀ k l : List Key, PyData.eqvAll (k.map dKey) (l.map dKey) = decide (k = l)
  | [], [] => by rfl
  | [], _ :: _ => by rw [decide_eq_false (by simp)]; rfl
  | _ :: _, [] => by rw [decide_eq_false (by simp)]; rfl
  | a :: r, b :: s => by
    show ((dKey a).eqv (dKey b) && PyData.eqvAll (r.map dKey) (s.map dKey)) = _
    rw [eqvAll_keys r s]
    have e : (dKey a).eqv (dKey b) = decide (a = b) := by
      cases a <;> cases b
      · rename_i i j
        show decide (i = j) = decide (Sum.inl i = Sum.inl j)
        simp
      · show false = _; simp
      · show false = _; simp
      · rename_i i j
        show (i == j) = decide ((Sum.inr i : Key) = Sum.inr j)
        by_cases h : i = j <;> simp [h]
    rw [e]
    by_cases h1 : a = b <;> by_cases h2 : r = s <;> simp [h1, h2]
def keyStr : Key → Bool
  | .inl _ => true
  | .inr z => PyData.strOk z
theorem canLay_keys : ∀ {k : List Key}, k.all keyStr = true → PyData.canLayAll0 (k.map dKey) = true
  | [], _ => rfl
  | .inl i :: r, h => canLay_keys (k := r) (by rw [List.all_cons] at h; exact h)
  | .inr z :: r, h => by
    rw [List.all_cons, Bool.and_eq_true] at h
    show (PyData.strOk z && PyData.canLayAll0 (r.map dKey)) = true
    rw [show PyData.strOk z = true from h.1, canLay_keys h.2]; rfl
theorem depth_keys : ∀ k : List Key, PyData.depthAll (k.map dKey) = 0
  | [] => rfl
  | .inl i :: r => by show max 0 (PyData.depthAll (r.map dKey)) = 0; rw [depth_keys r]; rfl
  | .inr i :: r => by show max 0 (PyData.depthAll (r.map dKey)) = 0; rw [depth_keys r]; rfl
theorem neT_keys {K : PySem.W.Frag} {H : Hp} {Q : VK} {a b : Addr} {k l : List Key} (ha : H a = some (.tup (k.map kV))) (hb : H b = some (.tup (l.map kV))) (sk : k.all keyStr = true) (sl : l.all keyStr = true) (q : Q (.bl (!decide (k = l))) H) : mNeB K (.ref a) (.ref b) H Q := by
  refine ⟨_, _, datV_tup ha, datV_tup hb, canLay_keys sk, canLay_keys sl, ?_, ?_⟩
  · show PyData.depthAll (k.map dKey) + 1 ≤ 150; rw [depth_keys]; decide
  · show Q (.bl (!PyData.eqvAll (k.map dKey) (l.map dKey))) H
    rw [eqvAll_keys]; exact q
theorem eq_keys {K : PySem.W.Frag} {H : Hp} {Q : VK} {a b : Key} (q : Q (.bl (decide (a = b))) H) : mEqB K (kV a) (kV b) H Q := by
  cases a <;> cases b
  · rename_i i j
    have e : decide ((Sum.inl i : Key) = Sum.inl j) = decide (i = j) := by simp
    rw [e] at q; exact q
  · have e : ∀ (i : Int) (j : Str), decide ((Sum.inl i : Key) = Sum.inr j) = false := by simp
    rw [e] at q; exact q
  · have e : ∀ (i : Int) (j : Str), decide ((Sum.inr j : Key) = Sum.inl i) = false := by simp
    rw [e] at q; exact q
  · rename_i i j
    have e : decide ((Sum.inr i : Key) = Sum.inr j) = decide (i = j) := by simp
    rw [e] at q; exact q
theorem ixL {K : PySem.W.Frag} {H : Hp} {Q : VK} {L : Addr} {xs : List V} {x : V} {i : Int} {j : Nat} (hL : H L = some (.lst xs)) (e : i = j) (hx : xs[j]? = some x) (q : Q x H) : rIxA K (.ref L) (.int i) H Q := by
  subst e
  refine .inl (.inl ⟨L, xs, j, x, rfl, rfl, SqL.of hL, ?_, q⟩)
  have hj := (List.getElem?_eq_some_iff.mp hx).1
  rw [atI_lt (by omega) (by omega)]
  simp [List.getD_eq_getElem?_getD, hx]
theorem tc1 {i : Nat} {σ : St} {x : V} {H : Hp} {R : List V → Hp → Prop} (e : σ[i]? = some (some x)) (h : R [x] H) : tCons (mVar i) tNil σ H R := by
  unfold tCons tNil mVar
  rw [e]; exact h
theorem depT (k : List Key) : (PyData.tuple (k.map dKey)).depth ≤ 150 := by show PyData.depthAll (k.map dKey) + 1 ≤ 150; rw [depth_keys]; decide
theorem neqv_t {k l : List Key} (h : (!(PyData.tuple (k.map dKey)).eqv (.tuple (l.map dKey))) = true) : k ≠ l := fun e => by
  have h : (!PyData.eqvAll (k.map dKey) (l.map dKey)) = true := h
  rw [eqvAll_keys, decide_eq_true e] at h; cases h
theorem neqv_f {k l : List Key} (h : (!(PyData.tuple (k.map dKey)).eqv (.tuple (l.map dKey))) = false) : k = l := by
  have h : (!PyData.eqvAll (k.map dKey) (l.map dKey)) = false := h
  rw [eqvAll_keys] at h
  simpa using h
def tabsApart (K : PySem.W.Frag) (ns : List Str) : Bool := decide ((ns.map fun n => (PySem.W.tabIn K n).map (·.2)).Nodup)
theorem apart_of {l : List Addr} (h : (l.map some).Nodup) : l.Nodup := List.Pairwise.of_map some (fun a b h e => h (congrArg some e)) h
end L2
namespace Rs
open PySem PySem.Spec PyProof.Rows L2
def top (i : Nat) : Stmt := PySem.Challenge.pw_rootstamp_k06_a_clash.main.body.getD i (.Pass ⟨0, 0, 0, 0⟩)
abbrev s__law_sum : Stmt := top 5
abbrev s__law_term : Stmt := top 4
abbrev s__law_cell_at : Stmt := top 3
abbrev s__law_weak : Stmt := top 6
abbrev s__law_planted : Stmt := top 7
abbrev s__law_due : Stmt := top 8
abbrev s__law_alike : Stmt := top 9
abbrev s_clash : Stmt := top 1
abbrev s_law : Stmt := top 10
def sAt (i : Nat) (l : List Stmt) : Stmt := l.getD i (.Pass ⟨0, 0, 0, 0⟩)
def sIf : Stmt → List Stmt | .If _ a _ _ => a | _ => []
def sVal : Stmt → Expr | .Return (some e) _ => e | .Assign _ e _ => e | .Expr e _ => e | _ => .Constant .none 0 ⟨0, 0, 0, 0⟩
def lamBody : Expr → Expr | .Lambda _ b _ _ => b | e => e
def lamScope : Expr → Scope | .Lambda _ _ sc _ => sc | _ => { kind := .function, names := [], isGenerator := false, isCoroutine := false }
abbrev e__law_weak__c0 : Expr := (sVal (sAt 0 (sIf (sAt 1 (defBody s__law_weak)))))
def ct__law_weak__c0 : CloT := ⟨(("_law_weak" : Str) ++ ".<locals>.") ++ "<lambda>", .expr (lamBody e__law_weak__c0), lamScope e__law_weak__c0, ["_law_term_here"], ["_law_many"]⟩
abbrev e__law_weak__c1 : Expr := (sVal (sAt 0 (sIf (sAt 2 (defBody s__law_weak)))))
def ct__law_weak__c1 : CloT := ⟨(("_law_weak" : Str) ++ ".<locals>.") ++ "<lambda>", .expr (lamBody e__law_weak__c1), lamScope e__law_weak__c1, ["_law_other"], ["_law_many"]⟩
abbrev e__law_weak__c2 : Expr := (sVal (sAt 3 (defBody s__law_weak)))
def ct__law_weak__c2 : CloT := ⟨(("_law_weak" : Str) ++ ".<locals>.") ++ "<lambda>", .expr (lamBody e__law_weak__c2), lamScope e__law_weak__c2, ["_law_mixed"], ["_law_many"]⟩
abbrev e__law_planted__c0 : Stmt := (sAt 1 (defBody s__law_planted))
def ct__law_planted__c0 : CloT := ⟨(("_law_planted" : Str) ++ ".<locals>.") ++ "_law_stamp_of", .stmts (defBody e__law_planted__c0), defScope e__law_planted__c0, ["_law_term_here"], ["_law_other", "_law_one", "_law_book"]⟩
abbrev e__law_planted__c1 : Expr := (sVal (sAt 0 (sIf (sAt 2 (defBody s__law_planted)))))
def ct__law_planted__c1 : CloT := ⟨(("_law_planted" : Str) ++ ".<locals>.") ++ "<lambda>", .expr (lamBody e__law_planted__c1), lamScope e__law_planted__c1, ["_law_term_here"], ["_law_book"]⟩
structure Adr where
  a__law_sum : Addr
  d__law_sum : FuncData
  a__law_term : Addr
  d__law_term : FuncData
  a__law_cell_at : Addr
  d__law_cell_at : FuncData
  a__law_weak : Addr
  d__law_weak : FuncData
  a__law_planted : Addr
  d__law_planted : FuncData
  a__law_due : Addr
  d__law_due : FuncData
  a__law_alike : Addr
  d__law_alike : FuncData
  a_clash : Addr
  d_clash : FuncData
  a_law : Addr
  d_law : FuncData
  k__law_weak : Addr
  t__law_weak : Addr
  k__law_planted : Addr
  t__law_planted : Addr
structure Txt (K : PySem.W.Frag) (mg : Str → Option Value) (A : Adr) : Prop where
  f__law_sum : Fun K "_law_sum" "_law_sum" s__law_sum A.a__law_sum A.d__law_sum
  m__law_sum : mg "_law_sum" = some (.ref A.a__law_sum)
  b__law_sum : Binds K A.d__law_sum ["_law_term_here"] []
  f__law_term : Fun K "_law_term" "_law_term" s__law_term A.a__law_term A.d__law_term
  m__law_term : mg "_law_term" = some (.ref A.a__law_term)
  b__law_term : Binds K A.d__law_term ["_law_cell"] []
  f__law_cell_at : Fun K "_law_cell_at" "_law_cell_at" s__law_cell_at A.a__law_cell_at A.d__law_cell_at
  m__law_cell_at : mg "_law_cell_at" = some (.ref A.a__law_cell_at)
  b__law_cell_at : Binds K A.d__law_cell_at ["_law_script", "_law_k"] []
  f__law_weak : Fun K "_law_weak" "_law_weak" s__law_weak A.a__law_weak A.d__law_weak
  m__law_weak : mg "_law_weak" = some (.ref A.a__law_weak)
  b__law_weak : Binds K A.d__law_weak ["_law_cell"] []
  f__law_planted : Fun K "_law_planted" "_law_planted" s__law_planted A.a__law_planted A.d__law_planted
  m__law_planted : mg "_law_planted" = some (.ref A.a__law_planted)
  b__law_planted : Binds K A.d__law_planted ["_law_one", "_law_other"] []
  f__law_due : Fun K "_law_due" "_law_due" s__law_due A.a__law_due A.d__law_due
  m__law_due : mg "_law_due" = some (.ref A.a__law_due)
  b__law_due : Binds K A.d__law_due ["_law_stamper", "_law_terms"] []
  f__law_alike : Fun K "_law_alike" "_law_alike" s__law_alike A.a__law_alike A.d__law_alike
  m__law_alike : mg "_law_alike" = some (.ref A.a__law_alike)
  b__law_alike : Binds K A.d__law_alike ["_law_found", "_law_due_here"] []
  f_clash : Fun K "clash" "clash" s_clash A.a_clash A.d_clash
  m_clash : mg "clash" = some (.ref A.a_clash)
  b_clash : Binds K A.d_clash ["stamper", "terms"] []
  f_law : Fun K "law" "law" s_law A.a_law A.d_law
  m_law : mg "law" = some (.ref A.a_law)
  b_law : Binds K A.d_law ["_law_script"] []
  z_isinstance : mg "isinstance" = none
  z_len : mg "len" = none
  z_list : mg "list" = none
  z_ord : mg "ord" = none
  z_range : mg "range" = none
  z_str : mg "str" = none
  z_tuple : mg "tuple" = none
  kc__law_weak : A.d__law_weak.code = .ref A.k__law_weak
  kc__law_planted : A.d__law_planted.code = .ref A.k__law_planted
def Tabs0 (A : Adr) (H : Hp) : Prop := H A.t__law_weak = some (.tbl #[]) ∧ H A.t__law_planted = some (.tbl #[]) ∧ [A.t__law_weak, A.t__law_planted].Nodup
theorem sc__law_weak__c0 : CloScope ["_law_term_here", "_law_many"] ["_law_term_here"] ["_law_many"] ct__law_weak__c0.scope := ⟨rfl, rfl, rfl, by decide +kernel, rfl, rfl, by decide +kernel, by decide +kernel, by decide +kernel, by decide +kernel, by decide +kernel⟩
theorem sc__law_weak__c1 : CloScope ["_law_other", "_law_many"] ["_law_other"] ["_law_many"] ct__law_weak__c1.scope := ⟨rfl, rfl, rfl, by decide +kernel, rfl, rfl, by decide +kernel, by decide +kernel, by decide +kernel, by decide +kernel, by decide +kernel⟩
theorem sc__law_weak__c2 : CloScope ["_law_mixed", "_law_many"] ["_law_mixed"] ["_law_many"] ct__law_weak__c2.scope := ⟨rfl, rfl, rfl, by decide +kernel, rfl, rfl, by decide +kernel, by decide +kernel, by decide +kernel, by decide +kernel, by decide +kernel⟩
theorem sc__law_planted__c0 : CloScope ["_law_term_here", "_law_other", "_law_one", "_law_book"] ["_law_term_here"] ["_law_other", "_law_one", "_law_book"] ct__law_planted__c0.scope := ⟨rfl, rfl, rfl, by decide +kernel, rfl, rfl, by decide +kernel, by decide +kernel, by decide +kernel, by decide +kernel, by decide +kernel⟩
theorem sc__law_planted__c1 : CloScope ["_law_term_here", "_law_book"] ["_law_term_here"] ["_law_book"] ct__law_planted__c1.scope := ⟨rfl, rfl, rfl, by decide +kernel, rfl, rfl, by decide +kernel, by decide +kernel, by decide +kernel, by decide +kernel, by decide +kernel⟩
theorem sc__law_sum : FnScope ["_law_term_here", "_law_total", "_law_part", "_law_sign"] ["_law_term_here"] (defScope s__law_sum) := ⟨rfl, rfl, rfl, by decide +kernel, rfl, by decide +kernel, by decide +kernel⟩
theorem sc__law_term : FnScope ["_law_cell", "_law_number", "_law_term_here", "_law_k"] ["_law_cell"] (defScope s__law_term) := ⟨rfl, rfl, rfl, by decide +kernel, rfl, by decide +kernel, by decide +kernel⟩
theorem sc__law_cell_at : FnScope ["_law_script", "_law_k"] ["_law_script", "_law_k"] (defScope s__law_cell_at) := ⟨rfl, rfl, rfl, by decide +kernel, rfl, by decide +kernel, by decide +kernel⟩
theorem sc__law_weak : FnScope ["_law_cell", "_law_many"] ["_law_cell"] (defScope s__law_weak) := ⟨rfl, rfl, rfl, by decide +kernel, rfl, by decide +kernel, by decide +kernel⟩
theorem sc__law_planted : FnScope ["_law_one", "_law_other", "_law_book", "_law_stamp_of"] ["_law_one", "_law_other"] (defScope s__law_planted) := ⟨rfl, rfl, rfl, by decide +kernel, rfl, by decide +kernel, by decide +kernel⟩
theorem sc__law_due : FnScope ["_law_stamper", "_law_terms", "_law_stamps", "_law_k", "_law_j"] ["_law_stamper", "_law_terms"] (defScope s__law_due) := ⟨rfl, rfl, rfl, by decide +kernel, rfl, by decide +kernel, by decide +kernel⟩
theorem sc__law_alike : FnScope ["_law_found", "_law_due_here"] ["_law_found", "_law_due_here"] (defScope s__law_alike) := ⟨rfl, rfl, rfl, by decide +kernel, rfl, by decide +kernel, by decide +kernel⟩
theorem sc_clash : FnScope ["stamper", "terms", "firsts", "term", "ahead"] ["stamper", "terms"] (defScope s_clash) := ⟨rfl, rfl, rfl, by decide +kernel, rfl, by decide +kernel, by decide +kernel⟩
theorem sc_law : FnScope ["_law_script", "_law_terms", "_law_first", "_law_stamper", "_law_more", "_law_handed", "_law_due_here"] ["_law_script"] (defScope s_law) := ⟨rfl, rfl, rfl, by decide +kernel, rfl, by decide +kernel, by decide +kernel⟩
end Rs
namespace Rs
open PySem PySem.Spec PyProof.Rows L2
def okP : Key → Bool
  | .inl i => decide (0 ≤ i ∧ i < 1000)
  | .inr z => z.cps.all (· < 128) && decide (z.length ≤ 10)
def okT (k : List Key) : Bool := k.all okP && decide (k.length ≤ 10)
def ordS (z : Str) : Int := (z.cps.toList.map fun c => ((c : Nat) : Int)).sum
def step (t : Int) : Key → Int
  | .inr z => t * 7 + 3 * z.length + ordS z
  | .inl i => t * 5 + i
def sumK (k : List Key) : Int := k.foldl step 0
def weakK (c : Nat) (m : Int) (k : List Key) : Key := match c with
  | 0 => .inl (sumK k % m)
  | 1 => .inr (("s" : Str) ++ ((toString (sumK k % m) : String) : Str))
  | _ => if k.length % 2 = 0 then .inl (sumK k % m) else .inr ((toString (sumK k % m) : String) : Str)
def KeepT (H H' : Hp) : Prop := ∀ b o, H b = some o → (∀ kvs, o ≠ .dT kvs) → H' b = some o
inductive Stp (K : PySem.W.Frag) (A : Adr) (H : Hp) (f : Addr) (g : List Key → Option Key) (n : Nat) : Prop
  | w0 (q : Addr) (m : Int) (h1 : 1 ≤ m) (h2 : m ≤ 40) (hc : CloAt H f ct__law_weak__c0 [q] [.int m]) (hg : g = fun k => some (weakK 0 m k))
  | w1 (q : Addr) (m : Int) (h1 : 1 ≤ m) (h2 : m ≤ 40) (hc : CloAt H f ct__law_weak__c1 [q] [.int m]) (hg : g = fun k => some (weakK 1 m k))
  | w2 (q : Addr) (m : Int) (h1 : 1 ≤ m) (h2 : m ≤ 40) (hc : CloAt H f ct__law_weak__c2 [q] [.int m]) (hg : g = fun k => some (weakK 2 m k))
  | p0 (q0 q1 q2 o1 o2 b : Addr) (k1 k2 : List Key) (kvs : List (List Key × Int)) (hc : CloAt H f ct__law_planted__c0 [q1, q0, q2] [.ref o2, .ref o1, .ref b]) (e1 : H o1 = some (.tup (k1.map kV))) (e2 : H o2 = some (.tup (k2.map kV)))
      (w1 : okT k1 = true) (hb : H b = some (.dT (kvs.map fun p => (p.1, V.int p.2)))) (hl : kvs.length ≤ n) (hg : g = fun k => ((kvs.find? fun p => decide (p.1 = (if k = k1 then k2 else k))).map fun p => Sum.inl p.2))
  | p1 (q2 b : Addr) (kvs : List (List Key × Int)) (hc : CloAt H f ct__law_planted__c1 [q2] [.ref b])
      (hb : H b = some (.dT (kvs.map fun p => (p.1, V.int p.2)))) (hl : kvs.length ≤ n) (hg : g = fun k => ((kvs.find? fun p => decide (p.1 = k)).map fun p => Sum.inl p.2))
def Sub (g g' : List Key → Option Key) : Prop := ∀ k v, g k = some v → g' k = some v
abbrev PK (H : Hp) : List Addr → List (List Key) → Prop := Paired (fun (p : Addr) (k : List Key) => H p = some (.tup (k.map kV)) ∧ okT k = true)
def IsDue (h : List Key → Key) (ks : List (List Key)) : Option (List Key × List Key) → Prop
  | none => ∀ (j k : Nat) a b, j < k → ks[j]? = some a → ks[k]? = some b → h a = h b → a = b
  | some r => ∃ j k : Nat, j < k ∧ ks[j]? = some r.1 ∧ ks[k]? = some r.2 ∧ r.1 ≠ r.2 ∧ h r.1 = h r.2 ∧ (∀ (j' k' : Nat) a b, j' < k' → k' < k → ks[j']? = some a → ks[k']? = some b → h a = h b → a = b) ∧ ∀ (j' : Nat) a, j' < j → ks[j']? = some a → h a = h r.2 → a = r.2
def RetDue (H : Hp) : Option (List Key × List Key) → V → Prop
  | none, v => v = .non
  | some r, v => ∃ p a b : Addr, v = .ref p ∧ H p = some (.tup [.ref a, .ref b]) ∧ H a = some (.tup (r.1.map kV)) ∧ H b = some (.tup (r.2.map kV)) ∧ okT r.1 = true ∧ okT r.2 = true
def Due (K : PySem.W.Frag) (A : Adr) : Sp := fun vs H Q _ => ∃ (f L : Addr) (ps : List Addr) (ks : List (List Key)) (g : List Key → Option Key) (n : Nat), vs = [.ref f, .ref L] ∧ Stp K A H f g n ∧ H L = some (.lst (ps.map V.ref)) ∧ PK H ps ks ∧ n + ks.length ≤ 900 ∧
  ∀ (v : V) (H' : Hp) (g' : List Key → Option Key) (r : Option (List Key × List Key)), KeepT H H' → Stp K A H' f g' (n + ks.length) → Sub g g' → RetDue H' r v → (∀ h : List Key → Key, (∀ k x, g' k = some x → h k = x) → IsDue h ks r) → Q v H'
def sp_clash (K : PySem.W.Frag) (A : Adr) : Sp := Due K A
def sp__law_due (K : PySem.W.Frag) (A : Adr) : Sp := fun vs H Q _ => ∃ (f L : Addr) (ps : List Addr) (ks : List (List Key)) (g : List Key → Option Key) (n : Nat), vs = [.ref f, .ref L] ∧ Stp K A H f g n ∧ H L = some (.lst (ps.map V.ref)) ∧ PK H ps ks ∧ n + ks.length ≤ 900 ∧
  ∀ (v : V) (H' : Hp) (g' : List Key → Option Key) (r : Option (List Key × List Key)), KeepT H H' → Stp K A H' f g' (n + ks.length) → Sub g g' → RetDue H' r v → (∀ h : List Key → Key, (∀ k x, g' k = some x → h k = x) → IsDue h ks r) → (∀ k ∈ ks, ∃ x, g' k = some x) → Q v H'
def sp__law_alike (K : PySem.W.Frag) (A : Adr) : Sp := fun vs H Q _ => ∃ (u v : V) (r : Option (List Key × List Key)), vs = [u, v] ∧ RetDue H r u ∧ RetDue H r v ∧ Q (.bl true) H
def sp__law_sum (K : PySem.W.Frag) (A : Adr) : Sp := fun vs H Q _ => ∃ (p : Addr) (k : List Key), vs = [.ref p] ∧ H p = some (.tup (k.map kV)) ∧ okT k = true ∧ Q (.int (sumK k)) H
def sp__law_term (K : PySem.W.Frag) (A : Adr) : Sp := fun vs H Q _ => ∃ c : Int, vs = [.int c] ∧ ∀ (p : Addr) (k : List Key) (H' : Hp), Same H H' → H' p = some (.tup (k.map kV)) → okT k = true → Q (.ref p) H'
def sp__law_cell_at (K : PySem.W.Frag) (A : Adr) : Sp := fun vs H Q _ => ∃ (a : Addr) (ns : List Int) (k : Int), vs = [.ref a, .int k] ∧ SqL K H a (ns.map V.int) ∧ 0 ≤ k ∧ ∀ z, Q (.int z) H
def sp__law_weak__c0 (K : PySem.W.Frag) (A : Adr) : Sp := fun vs H Q _ => ∃ (p : Addr) (m : Int) (k : List Key), vs = [.ref p, .int m] ∧ 1 ≤ m ∧ m ≤ 40 ∧ H p = some (.tup (k.map kV)) ∧ okT k = true ∧ Q (kV (weakK 0 m k)) H
def sp__law_weak__c1 (K : PySem.W.Frag) (A : Adr) : Sp := fun vs H Q _ => ∃ (p : Addr) (m : Int) (k : List Key), vs = [.ref p, .int m] ∧ 1 ≤ m ∧ m ≤ 40 ∧ H p = some (.tup (k.map kV)) ∧ okT k = true ∧ Q (kV (weakK 1 m k)) H
def sp__law_weak__c2 (K : PySem.W.Frag) (A : Adr) : Sp := fun vs H Q _ => ∃ (p : Addr) (m : Int) (k : List Key), vs = [.ref p, .int m] ∧ 1 ≤ m ∧ m ≤ 40 ∧ H p = some (.tup (k.map kV)) ∧ okT k = true ∧ ∀ H', Same H H' → Q (kV (weakK 2 m k)) H'
def defV (kvs : List (List Key × V)) (kk : List Key) (d : Int) : V := (valV kvs kk).getD (.int d)
def defH (H : Hp) (b : Addr) (kvs : List (List Key × V)) (kk : List Key) (d : Int) : Hp := if (valV kvs kk).isSome = true then H else upd H b (.dT (putK kvs kk (.int d)))
def sp__law_planted__c0 (K : PySem.W.Frag) (A : Adr) : Sp := fun vs H Q _ => ∃ (p o2 o1 b : Addr) (k k1 k2 : List Key) (kvs : List (List Key × V)), vs = [.ref p, .ref o2, .ref o1, .ref b] ∧ H p = some (.tup (k.map kV)) ∧ H o1 = some (.tup (k1.map kV)) ∧ H o2 = some (.tup (k2.map kV)) ∧ okT k = true ∧ okT k1 = true ∧ H b = some (.dT kvs) ∧ kvs.length ≤ 1000 ∧
  Q (defV kvs (if k = k1 then k2 else k) (3 * (kvs.length : Int) + 5)) (defH H b kvs (if k = k1 then k2 else k) (3 * (kvs.length : Int) + 5))
def sp__law_planted__c1 (K : PySem.W.Frag) (A : Adr) : Sp := fun vs H Q _ => ∃ (p b : Addr) (k : List Key) (kvs : List (List Key × V)), vs = [.ref p, .ref b] ∧ H p = some (.tup (k.map kV)) ∧ H b = some (.dT kvs) ∧ kvs.length ≤ 1000 ∧ Q (defV kvs k (kvs.length : Int)) (defH H b kvs k (kvs.length : Int))
def KeepP (P : Addr) (H H' : Hp) : Prop := ∀ b o, H b = some o → b ≠ P → H' b = some o
def sp__law_weak (K : PySem.W.Frag) (A : Adr) : Sp := fun vs H Q _ => ∃ c : Int, vs = [.int c] ∧ H A.t__law_weak = some (.tbl #[]) ∧ ∀ (f : Addr) (g : List Key → Option Key) (H' : Hp), KeepP A.t__law_weak H H' → Stp K A H' f g 0 → Q (.ref f) H'
def sp__law_planted (K : PySem.W.Frag) (A : Adr) : Sp := fun vs H Q _ => ∃ (o1 o2 : Addr) (k1 k2 : List Key), vs = [.ref o1, .ref o2] ∧ H o1 = some (.tup (k1.map kV)) ∧ H o2 = some (.tup (k2.map kV)) ∧ okT k1 = true ∧ okT k2 = true ∧ H A.t__law_planted = some (.tbl #[]) ∧
  ∀ (f : Addr) (g : List Key → Option Key) (H' : Hp), KeepP A.t__law_planted H H' → Stp K A H' f g 0 → Q (.ref f) H'
def sp_law (K : PySem.W.Frag) (A : Adr) : Sp := fun vs H Q _ => ∃ (a : Addr) (ns : List Int), vs = [.ref a] ∧ SqL K H a (ns.map V.int) ∧ ns.length ≤ 63 ∧ Tabs0 A H ∧ ∀ H', Q (.bl true) H'
end Rs
namespace Rs
open PySem PySem.Spec PyProof.Rows L2
def Knd1 (K : PySem.W.Frag) (A : Adr) : L2.Kinds := [(ct__law_weak__c0, sp__law_weak__c0 K A), (ct__law_weak__c1, sp__law_weak__c1 K A), (ct__law_weak__c2, sp__law_weak__c2 K A), (ct__law_planted__c0, sp__law_planted__c0 K A), (ct__law_planted__c1, sp__law_planted__c1 K A)]
def T__law_weak__c0 (K : PySem.W.Frag) (A : Adr) : TE := tOp (mMod) (tCallX (sp__law_sum K A) (fun _ => E0) (tCons (mVar 0) (tNil))) (mVar 1)
def T__law_weak__c1 (K : PySem.W.Frag) (A : Adr) : TE := tOp (mAddG K) (tC (.str "s")) (tCB (kStr) (tCons (tOp (mMod) (tCallX (sp__law_sum K A) (fun _ => E0) (tCons (mVar 0) (tNil))) (mVar 1)) (tNil)))
def T__law_weak__c2 (K : PySem.W.Frag) (A : Adr) : TE := tOp (rIxA K) (tLst (tCons (tOp (mMod) (tCallX (sp__law_sum K A) (fun _ => E0) (tCons (mVar 0) (tNil))) (mVar 1)) (tCons (tCB (kStr) (tCons (tOp (mMod) (tCallX (sp__law_sum K A) (fun _ => E0) (tCons (mVar 0) (tNil))) (mVar 1)) (tNil))) (tNil)))) (tOp (mMod) (tCB (kLenA K) (tCons (mVar 0) (tNil))) (tC (.int 2)))
def T__law_planted__c0 (K : PySem.W.Frag) (A : Adr) : TS := tSeq (mIfS (mTest (tOp (mEqB K) (mVar 0) (mVar 2))) (tAsg (mVar 1) (gName 0)) (tNext)) (tRet (tBM K "dict" rSetDef (mVar 3) (tCons (mVar 0) (tCons (tOp (mAddG K) (tOp (mMulA) (tC (.int 3)) (tCB (kLenA K) (tCons (mVar 3) (tNil)))) (tC (.int 5))) (tNil)))))
def T__law_planted__c1 (K : PySem.W.Frag) (A : Adr) : TE := tBM K "dict" rSetDef (mVar 1) (tCons (mVar 0) (tCons (tCB (kLenA K) (tCons (mVar 1) (tNil))) (tNil)))
def T__law_sum (K : PySem.W.Frag) (A : Adr) : TS := tSeq (tAsg (tC (.int 0)) (gName 1)) (tSeq (tFor (iSeqA K (mVar 0)) (gName 2) (mIfS (mTru K (tCB (kIsi) (tCons (mVar 2) (tCons (tC (.ty "str")) (tNil))))) (tSeq (tAsg (tOp (mAddG K) (tOp (mMulA) (mVar 1) (tC (.int 7))) (tOp (mMulA) (tC (.int 3)) (tCB (kLenA K) (tCons (mVar 2) (tNil))))) (gName 1)) (tFor (iSeqA K (mVar 2)) (gName 3) (tAsg (tOp (mAddG K) (mVar 1) (tCB (kOrd) (tCons (mVar 3) (tNil)))) (gName 1)))) (tAsg (tOp (mAddG K) (tOp (mMulA) (mVar 1) (tC (.int 5))) (mVar 2)) (gName 1)))) (tRet (mVar 1)))
def T__law_term (K : PySem.W.Frag) (A : Adr) : TS := tSeq (tAsg (tOp (mFdiv) (mVar 0) (tC (.int 4))) (gName 1)) (tSeq (tAsg (tTup (tCons (tOp (mMulA) (tOp (rIxA K) (tC (.str "abc")) (tOp (mMod) (mVar 1) (tC (.int 3)))) (tOp (mAddG K) (tC (.int 1)) (tOp (mMod) (tOp (mFdiv) (mVar 1) (tC (.int 3))) (tC (.int 2))))) (tNil))) (gName 2)) (tSeq (tFor (iRng1 (tCons (tOp (mMod) (mVar 0) (tC (.int 4))) (tNil))) (gName 3) (tSeq (tAsg (tOp (mFdiv) (mVar 1) (tC (.int 6))) (gName 1)) (mIfS (mTest (tOp (mEqB K) (tOp (mMod) (mVar 1) (tC (.int 3))) (tC (.int 0)))) (tAsg (tOp (mAddG K) (mVar 2) (tTup (tCons (tOp (mMulA) (tOp (rIxA K) (tC (.str "xy")) (tOp (mMod) (tOp (mFdiv) (mVar 1) (tC (.int 3))) (tC (.int 2)))) (tOp (mMod) (tOp (mFdiv) (mVar 1) (tC (.int 3))) (tC (.int 3)))) (tNil)))) (gName 2)) (tAsg (tOp (mAddG K) (mVar 2) (tTup (tCons (tOp (mMod) (mVar 1) (tC (.int 7))) (tNil)))) (gName 2))))) (tRet (mVar 2))))
def T__law_cell_at (K : PySem.W.Frag) (A : Adr) : TS := tSeq (mIfS (mTest (tOp (mLt) (mVar 1) (tCB (kLenA K) (tCons (mVar 0) (tNil))))) (tRet (tOp (rIxA K) (mVar 0) (mVar 1))) (tNext)) (tRet (tC (.int 0)))
def T__law_weak (K : PySem.W.Frag) (A : Adr) (q0 : Addr) : TSM := mSeq (mLift (tAsg (tOp (mAddG K) (tC (.int 1)) (tOp (mMod) (mVar 0) (tC (.int 40)))) (gName 1))) (mSeq (mIfM (mTest (tOp (mEqB K) (tOp (mMod) (tOp (mFdiv) (mVar 0) (tC (.int 40))) (tC (.int 3))) (tC (.int 0)))) (mRet (tLam A.t__law_weak ⟨37, 15, 37, 74⟩ ct__law_weak__c0 [q0])) (mNext)) (mSeq (mIfM (mTest (tOp (mEqB K) (tOp (mMod) (tOp (mFdiv) (mVar 0) (tC (.int 40))) (tC (.int 3))) (tC (.int 1)))) (mRet (tLam A.t__law_weak ⟨39, 15, 39, 77⟩ ct__law_weak__c1 [q0])) (mNext)) (mRet (tLam A.t__law_weak ⟨40, 11, 40, 124⟩ ct__law_weak__c2 [q0]))))
def R__law_planted_3 (K : PySem.W.Frag) (A : Adr) (q0 q1 q2 : Addr) : TSM := mRet (mVar 3)
def R__law_planted_2 (K : PySem.W.Frag) (A : Adr) (q0 q1 q2 : Addr) : TSM := mSeq (mIfM (mTest (tOp (mEqB K) (mVar 0) (mVar 1))) (mRet (tLam A.t__law_planted ⟨49, 15, 49, 90⟩ ct__law_planted__c1 [q2])) (mNext)) (R__law_planted_3 K A q0 q1 q2)
def T__law_planted (K : PySem.W.Frag) (A : Adr) (q0 q1 q2 : Addr) : TSM := mSeq (mLift (tAsg (tDNewA) (gName 2))) (mSeq (mLift (tAsg (tLam A.t__law_planted ⟨44, 4, 47, 75⟩ ct__law_planted__c0 [q1, q0, q2]) (gName 3))) (mSeq (mIfM (mTest (tOp (mEqB K) (mVar 0) (mVar 1))) (mRet (tLam A.t__law_planted ⟨49, 15, 49, 90⟩ ct__law_planted__c1 [q2])) (mNext)) (mRet (mVar 3))))
def T__law_due (K : PySem.W.Frag) (A : Adr) : TS := tSeq (tAsg (tComp [0] (iSeqA K (mVar 1)) (fun _ H Q => Q true H) (tHeld (Knd1 K A) (fun _ => E0) (mVar 1) (tCons (mVar 0) (tNil)))) (gName 2)) (tSeq (tFor (iRng1 (tCons (tCB (kLenA K) (tCons (mVar 1) (tNil))) (tNil))) (gName 3) (tFor (iRng1 (tCons (mVar 3) (tNil))) (gName 4) (mIfS (mAnd (mTest (tOp (mNeB K) (tOp (rIxA K) (mVar 1) (mVar 4)) (tOp (rIxA K) (mVar 1) (mVar 3)))) (mTest (tOp (mEqB K) (tOp (rIxA K) (mVar 2) (mVar 4)) (tOp (rIxA K) (mVar 2) (mVar 3))))) (tRet (tTup (tCons (tOp (rIxA K) (mVar 1) (mVar 4)) (tCons (tOp (rIxA K) (mVar 1) (mVar 3)) (tNil))))) (tNext)))) (tRet (tC .non)))
def T__law_alike (K : PySem.W.Frag) (A : Adr) : TS := tSeq (mIfS (mTest (tOp (mIsN) (mVar 1) (tC .non))) (tRet (tOp (mIsN) (mVar 0) (tC .non))) (tNext)) (tSeq (mIfS (mOr (tNot (mTru K (tCB (kIsi) (tCons (mVar 0) (tCons (tC (.ty "tuple")) (tNil)))))) (mTest (tOp (mNeB K) (tCB (kLenA K) (tCons (mVar 0) (tNil))) (tC (.int 2))))) (tRet (tC (.bl false))) (tNext)) (tRet (mAndV (tCB (kIsi) (tCons (tOp (rIxA K) (mVar 0) (tC (.int 0))) (tCons (tC (.ty "tuple")) (tNil)))) (mAndV (tCB (kIsi) (tCons (tOp (rIxA K) (mVar 0) (tC (.int 1))) (tCons (tC (.ty "tuple")) (tNil)))) (tOp (mEqB K) (mVar 0) (mVar 1))))))
def T_clash (K : PySem.W.Frag) (A : Adr) : TS := tSeq (tAsg (tDNewA) (gName 2)) (tSeq (tFor (iSeqA K (mVar 1)) (gName 3) (tSeq (tAsg (tBM K "dict" rSetDef (mVar 2) (tCons (tHeld (Knd1 K A) (fun _ => E0) (mVar 0) (tCons (mVar 3) (tNil))) (tCons (mVar 3) (tNil)))) (gName 4)) (mIfS (mTest (tOp (mNeB K) (mVar 4) (mVar 3))) (tRet (tTup (tCons (mVar 4) (tCons (mVar 3) (tNil))))) (tNext)))) (tRet (tC .non)))
def R_law_8 (K : PySem.W.Frag) (A : Adr) : TS := tRet (mAndV (tCallX (sp__law_alike K A) (fun _ => E0) (tCons (tCallX (sp_clash K A) (fun _ => E0) (tCons (mVar 3) (tCons (mVar 5) (tNil)))) (tCons (mVar 6) (tNil)))) (tOp (mIsN) (tCallX (sp_clash K A) (fun _ => E0) (tCons (mVar 3) (tCons (tLst (tNil)) (tNil)))) (tC .non)))
def R_law_7 (K : PySem.W.Frag) (A : Adr) : TS := tSeq (tDrop (tCallX (sp_clash K A) (fun _ => E0) (tCons (mVar 3) (tCons (tOp (mAddG K) (tCB (kList K) (tCons (mVar 1) (tNil))) (tLst (tCons (tTup (tCons (tC (.str "z")) (tCons (tC (.int 9)) (tNil)))) (tCons (tTup (tCons (tC (.str "zz")) (tCons (tC (.int 9)) (tNil)))) (tNil))))) (tNil))))) (R_law_8 K A)
def R_law_6 (K : PySem.W.Frag) (A : Adr) : TS := tSeq (mIfS (mOr (tNot (mTru K (tCallX (sp__law_alike K A) (fun _ => E0) (tCons (tCallX (sp_clash K A) (fun _ => E0) (tCons (mVar 3) (tCons (mVar 5) (tNil)))) (tCons (mVar 6) (tNil)))))) (mTest (tOp (mNeB K) (mVar 5) (mVar 1)))) (tRet (tC (.bl false))) (tNext)) (R_law_7 K A)
def R_law_5 (K : PySem.W.Frag) (A : Adr) : TS := tSeq (tAsg (tCallX (sp__law_due K A) (fun _ => E0) (tCons (mVar 3) (tCons (mVar 1) (tNil)))) (gName 6)) (R_law_6 K A)
def R_law_4 (K : PySem.W.Frag) (A : Adr) : TS := tSeq (tAsg (tCB (kList K) (tCons (mVar 1) (tNil))) (gName 5)) (R_law_5 K A)
def T_law (K : PySem.W.Frag) (A : Adr) : TS := tSeq (tAsg (tComp [] (iSeqA K (tSl (rSlA K) (mVar 0) (tPart (tC (.int 2))) (tPart (tC (.int 62))))) (fun _ H Q => Q true H) (tCallX (sp__law_term K A) (fun _ => E0) (tCons (mVar 0) (tNil)))) (gName 1)) (tSeq (tAsg (tCallX (sp__law_cell_at K A) (fun _ => E0) (tCons (mVar 0) (tCons (tC (.int 0)) (tNil)))) (gName 2)) (tSeq (tAsg (tCallX (sp__law_weak K A) (fun _ => E0) (tCons (tOp (mFdiv) (mVar 2) (tC (.int 4))) (tNil))) (gName 3)) (tSeq (mIfS (mAnd (mTest (tOp (mEqB K) (tOp (mMod) (mVar 2) (tC (.int 4))) (tC (.int 3)))) (mTest (tOp (mGt) (tCB (kLenA K) (tCons (mVar 1) (tNil))) (tC (.int 0))))) (tSeq (tAsg (tCallX (sp__law_cell_at K A) (fun _ => E0) (tCons (mVar 0) (tCons (tC (.int 1)) (tNil)))) (gName 4)) (tAsg (tCallX (sp__law_planted K A) (fun _ => E0) (tCons (tOp (rIxA K) (mVar 1) (tOp (mMod) (mVar 4) (tCB (kLenA K) (tCons (mVar 1) (tNil))))) (tCons (tOp (rIxA K) (mVar 1) (tOp (mMod) (tOp (mFdiv) (mVar 4) (tC (.int 64))) (tCB (kLenA K) (tCons (mVar 1) (tNil))))) (tNil)))) (gName 3))) (tNext)) (tSeq (tAsg (tCB (kList K) (tCons (mVar 1) (tNil))) (gName 5)) (tSeq (tAsg (tCallX (sp__law_due K A) (fun _ => E0) (tCons (mVar 3) (tCons (mVar 1) (tNil)))) (gName 6)) (tSeq (mIfS (mOr (tNot (mTru K (tCallX (sp__law_alike K A) (fun _ => E0) (tCons (tCallX (sp_clash K A) (fun _ => E0) (tCons (mVar 3) (tCons (mVar 5) (tNil)))) (tCons (mVar 6) (tNil)))))) (mTest (tOp (mNeB K) (mVar 5) (mVar 1)))) (tRet (tC (.bl false))) (tNext)) (tSeq (tDrop (tCallX (sp_clash K A) (fun _ => E0) (tCons (mVar 3) (tCons (tOp (mAddG K) (tCB (kList K) (tCons (mVar 1) (tNil))) (tLst (tCons (tTup (tCons (tC (.str "z")) (tCons (tC (.int 9)) (tNil)))) (tCons (tTup (tCons (tC (.str "zz")) (tCons (tC (.int 9)) (tNil)))) (tNil))))) (tNil))))) (tRet (mAndV (tCallX (sp__law_alike K A) (fun _ => E0) (tCons (tCallX (sp_clash K A) (fun _ => E0) (tCons (mVar 3) (tCons (mVar 5) (tNil)))) (tCons (mVar 6) (tNil)))) (tOp (mIsN) (tCallX (sp_clash K A) (fun _ => E0) (tCons (mVar 3) (tCons (tLst (tNil)) (tNil)))) (tC .non)))))))))))
end Rs
namespace Rs
open PySem PySem.Spec PyProof.Rows L2
theorem tm__law_weak__c0 {P : Program} {w : World} {K : PySem.W.Frag} {mg : Str → Option Value} {base : Heap} {A : Adr} (T : Txt K mg A) (G__law_sum : FnOk P w K mg base (CX1 P w) 1 A.a__law_sum A.d__law_sum ["_law_term_here"] (sp__law_sum K A)) (f c : Addr) (cl : List (Str × Addr)) (Ar : Around) (outer : List Env) (s : Shared) (H : Hp) (E : XK)
    (hr : Room 1 (Ar.deeper (PySem.W.envX ct__law_weak__c0.qual ct__law_weak__c0.scope s.heap.objs.size f (.ref c) cl))) : PE (cxClo P w K mg base ["_law_term_here", "_law_many"] ct__law_weak__c0.qual ct__law_weak__c0.scope f c cl Ar outer s H E).nox (lamBody e__law_weak__c0) (T__law_weak__c0 K A) := QE.out (
  x_op oMod (x_callX G__law_sum (hr.mono (by decide)) T.m__law_sum T.f__law_sum.kp T.b__law_sum passF (x_cons (x_var 0) (x_nil))) (x_var 1))
theorem tm__law_weak__c1 {P : Program} {w : World} {K : PySem.W.Frag} {mg : Str → Option Value} {base : Heap} {A : Adr} (T : Txt K mg A) (G__law_sum : FnOk P w K mg base (CX1 P w) 1 A.a__law_sum A.d__law_sum ["_law_term_here"] (sp__law_sum K A)) (f c : Addr) (cl : List (Str × Addr)) (Ar : Around) (outer : List Env) (s : Shared) (H : Hp) (E : XK)
    (hr : Room 1 (Ar.deeper (PySem.W.envX ct__law_weak__c1.qual ct__law_weak__c1.scope s.heap.objs.size f (.ref c) cl))) : PE (cxClo P w K mg base ["_law_other", "_law_many"] ct__law_weak__c1.qual ct__law_weak__c1.scope f c cl Ar outer s H E).nox (lamBody e__law_weak__c1) (T__law_weak__c1 K A) := QE.out (
  x_op oAddG (x_str) (x_callTy cStr T.z_str boot_str (x_cons (x_op oMod (x_callX G__law_sum (hr.mono (by decide)) T.m__law_sum T.f__law_sum.kp T.b__law_sum passF (x_cons (x_var 0) (x_nil))) (x_var 1)) (x_nil))))
theorem tm__law_weak__c2 {P : Program} {w : World} {K : PySem.W.Frag} {mg : Str → Option Value} {base : Heap} {A : Adr} (T : Txt K mg A) (G__law_sum : FnOk P w K mg base (CX1 P w) 1 A.a__law_sum A.d__law_sum ["_law_term_here"] (sp__law_sum K A)) (f c : Addr) (cl : List (Str × Addr)) (Ar : Around) (outer : List Env) (s : Shared) (H : Hp) (E : XK)
    (hr : Room 1 (Ar.deeper (PySem.W.envX ct__law_weak__c2.qual ct__law_weak__c2.scope s.heap.objs.size f (.ref c) cl))) : PE (cxClo P w K mg base ["_law_mixed", "_law_many"] ct__law_weak__c2.qual ct__law_weak__c2.scope f c cl Ar outer s H E).nox (lamBody e__law_weak__c2) (T__law_weak__c2 K A) := QE.out (
  x_ix (ix_any hr.units1) (x_lst (x_cons (x_op oMod (x_callX G__law_sum (hr.mono (by decide)) T.m__law_sum T.f__law_sum.kp T.b__law_sum passF (x_cons (x_var 0) (x_nil))) (x_var 1)) (x_cons (x_callTy cStr T.z_str boot_str (x_cons (x_op oMod (x_callX G__law_sum (hr.mono (by decide)) T.m__law_sum T.f__law_sum.kp T.b__law_sum passF (x_cons (x_var 0) (x_nil))) (x_var 1)) (x_nil))) (x_nil)))) (x_op oMod (x_callB cLenA T.z_len PySem.boot_len (x_cons (x_var 0) (x_nil))) (x_int)) (fun _ _ => rfl))
theorem tm__law_planted__c0 {P : Program} {w : World} {K : PySem.W.Frag} {mg : Str → Option Value} {base : Heap} {A : Adr} (T : Txt K mg A)  (f c : Addr) (cl : List (Str × Addr)) (Ar : Around) (outer : List Env) (s : Shared) (H : Hp) (E : XK)
    (hr : Room 0 (Ar.deeper (PySem.W.envX ct__law_planted__c0.qual ct__law_planted__c0.scope s.heap.objs.size f (.ref c) cl))) : PSs (cxClo P w K mg base ["_law_term_here", "_law_other", "_law_one", "_law_book"] ct__law_planted__c0.qual ct__law_planted__c0.scope f c cl Ar outer s H E).nox (defBody e__law_planted__c0) (T__law_planted__c0 K A) := QSs.out (
  x_scons (x_ifS (x_tcmp (oEqB hr.units150) (x_var 0) (x_var 2)) (x_sone (x_set 0 sc__law_planted__c0.nd (x_var 1))) (x_snil)) (x_sone (x_ret (x_bm PySem.F.plainAttrs_dict PySem.F.slot_dict_setdefault PySem.F.type_dict_setdefault (mt_setdef hr.units1) (x_var 3) (x_cons (x_var 0) (x_cons (x_op oAddG (x_op oMulA (x_int) (x_callB cLenA T.z_len PySem.boot_len (x_cons (x_var 3) (x_nil)))) (x_int)) (x_nil)))))))
theorem tm__law_planted__c1 {P : Program} {w : World} {K : PySem.W.Frag} {mg : Str → Option Value} {base : Heap} {A : Adr} (T : Txt K mg A)  (f c : Addr) (cl : List (Str × Addr)) (Ar : Around) (outer : List Env) (s : Shared) (H : Hp) (E : XK)
    (hr : Room 0 (Ar.deeper (PySem.W.envX ct__law_planted__c1.qual ct__law_planted__c1.scope s.heap.objs.size f (.ref c) cl))) : PE (cxClo P w K mg base ["_law_term_here", "_law_book"] ct__law_planted__c1.qual ct__law_planted__c1.scope f c cl Ar outer s H E).nox (lamBody e__law_planted__c1) (T__law_planted__c1 K A) := QE.out (
  x_bm PySem.F.plainAttrs_dict PySem.F.slot_dict_setdefault PySem.F.type_dict_setdefault (mt_setdef hr.units1) (x_var 1) (x_cons (x_var 0) (x_cons (x_callB cLenA T.z_len PySem.boot_len (x_cons (x_var 1) (x_nil))) (x_nil))))
theorem tm__law_sum {P : Program} {w : World} {K : PySem.W.Frag} {mg : Str → Option Value} {base : Heap} {A : Adr} (T : Txt K mg A)  (cdv : Value) (Ar : Around) (outer : List Env) (s : Shared) (H : Hp) (E : XK)
    (hr : Room 0 (Ar.deeper (envOfC "_law_sum" (defScope s__law_sum) s.heap.objs.size A.a__law_sum cdv))) : PSs (cxOf (CX1 P w) P w K mg base ["_law_term_here", "_law_total", "_law_part", "_law_sign"] "_law_sum" (defScope s__law_sum) A.a__law_sum cdv Ar outer s H E).nox (defBody s__law_sum) (T__law_sum K A) := QSs.out (
  x_scons (x_set 1 sc__law_sum.nd (x_int)) (x_scons (x_for 2 sc__law_sum.nd (x_seqA (x_var 0)) (x_sone (x_ifS (x_test (x_callB cIsi T.z_isinstance boot_isinstance (x_cons (x_var 2) (x_cons (x_ty T.z_str boot_str) (x_nil))))) (x_scons (x_set 1 sc__law_sum.nd (x_op oAddG (x_op oMulA (x_var 1) (x_int)) (x_op oMulA (x_int) (x_callB cLenA T.z_len PySem.boot_len (x_cons (x_var 2) (x_nil)))))) (x_sone (x_for 3 sc__law_sum.nd (x_seqA (x_var 2)) (x_sone (x_set 1 sc__law_sum.nd (x_op oAddG (x_var 1) (x_callB cOrd T.z_ord boot_ord (x_cons (x_var 3) (x_nil)))))) PassesOwn.never))) (x_sone (x_set 1 sc__law_sum.nd (x_op oAddG (x_op oMulA (x_var 1) (x_int)) (x_var 2)))))) PassesOwn.never) (x_sone (x_ret (x_var 1)))))
theorem tm__law_term {P : Program} {w : World} {K : PySem.W.Frag} {mg : Str → Option Value} {base : Heap} {A : Adr} (T : Txt K mg A)  (cdv : Value) (Ar : Around) (outer : List Env) (s : Shared) (H : Hp) (E : XK)
    (hr : Room 0 (Ar.deeper (envOfC "_law_term" (defScope s__law_term) s.heap.objs.size A.a__law_term cdv))) : PSs (cxOf (CX1 P w) P w K mg base ["_law_cell", "_law_number", "_law_term_here", "_law_k"] "_law_term" (defScope s__law_term) A.a__law_term cdv Ar outer s H E).nox (defBody s__law_term) (T__law_term K A) := QSs.out (
  x_scons (x_set 1 sc__law_term.nd (x_op oFdiv (x_var 0) (x_int))) (x_scons (x_set 2 sc__law_term.nd (x_tup (x_cons (x_op oMulA (x_ix (ix_any hr.units1) (x_str) (x_op oMod (x_var 1) (x_int)) (fun _ _ => rfl)) (x_op oAddG (x_int) (x_op oMod (x_op oFdiv (x_var 1) (x_int)) (x_int)))) (x_nil)))) (x_scons (x_for 3 sc__law_term.nd (x_range1 T.z_range (x_cons (x_op oMod (x_var 0) (x_int)) (x_nil))) (x_scons (x_set 1 sc__law_term.nd (x_op oFdiv (x_var 1) (x_int))) (x_sone (x_ifS (x_tcmp (oEqB hr.units150) (x_op oMod (x_var 1) (x_int)) (x_int)) (x_sone (x_set 2 sc__law_term.nd (x_op oAddG (x_var 2) (x_tup (x_cons (x_op oMulA (x_ix (ix_any hr.units1) (x_str) (x_op oMod (x_op oFdiv (x_var 1) (x_int)) (x_int)) (fun _ _ => rfl)) (x_op oMod (x_op oFdiv (x_var 1) (x_int)) (x_int))) (x_nil)))))) (x_sone (x_set 2 sc__law_term.nd (x_op oAddG (x_var 2) (x_tup (x_cons (x_op oMod (x_var 1) (x_int)) (x_nil))))))))) PassesOwn.never) (x_sone (x_ret (x_var 2))))))
theorem tm__law_cell_at {P : Program} {w : World} {K : PySem.W.Frag} {mg : Str → Option Value} {base : Heap} {A : Adr} (T : Txt K mg A)  (cdv : Value) (Ar : Around) (outer : List Env) (s : Shared) (H : Hp) (E : XK)
    (hr : Room 0 (Ar.deeper (envOfC "_law_cell_at" (defScope s__law_cell_at) s.heap.objs.size A.a__law_cell_at cdv))) : PSs (cxOf (CX1 P w) P w K mg base ["_law_script", "_law_k"] "_law_cell_at" (defScope s__law_cell_at) A.a__law_cell_at cdv Ar outer s H E).nox (defBody s__law_cell_at) (T__law_cell_at K A) := QSs.out (
  x_scons (x_ifS (x_tcmp oLt (x_var 1) (x_callB cLenA T.z_len PySem.boot_len (x_cons (x_var 0) (x_nil)))) (x_sone (x_ret (x_ix (ix_any hr.units1) (x_var 0) (x_var 1) (fun _ _ => rfl)))) (x_snil)) (x_sone (x_ret (x_int))))
theorem tm__law_weak {P : Program} {w : World} {K : PySem.W.Frag} {mg : Str → Option Value} {base : Heap} {A : Adr} (T : Txt K mg A) (B : BM mg base) (C : PySem.W.CodeHd base A.k__law_weak A.t__law_weak)  (Ar : Around) (outer : List Env) (s : Shared) (H : Hp) (E : XK)
    (hr : Room 0 (Ar.deeper (envOfC "_law_weak" (defScope s__law_weak) s.heap.objs.size A.a__law_weak (.ref A.k__law_weak)))) : QMs (cxOf (CX1 P w) P w K mg base ["_law_cell", "_law_many"] "_law_weak" (defScope s__law_weak) A.a__law_weak (.ref A.k__law_weak) Ar outer s H E).nox (defBody s__law_weak) (T__law_weak K A (s.heap.objs.size + 1)) := (
  y_cons (y_lift (x_set 1 sc__law_weak.nd (x_op oAddG (x_int) (x_op oMod (x_var 0) (x_int))))) (y_cons (y_if (x_tcmp (oEqB hr.units150) (x_op oMod (x_op oFdiv (x_var 0) (x_int)) (x_int)) (x_int)) (y_one (y_ret (x_lam B C rfl (by rfl) (by simp) rfl rfl rfl rfl (fun _ _ _ _ us hl => match us, hl with | [_], _ => rfl)))) (y_nil)) (y_cons (y_if (x_tcmp (oEqB hr.units150) (x_op oMod (x_op oFdiv (x_var 0) (x_int)) (x_int)) (x_int)) (y_one (y_ret (x_lam B C rfl (by rfl) (by simp) rfl rfl rfl rfl (fun _ _ _ _ us hl => match us, hl with | [_], _ => rfl)))) (y_nil)) (y_one (y_ret (x_lam B C rfl (by rfl) (by simp) rfl rfl rfl rfl (fun _ _ _ _ us hl => match us, hl with | [_], _ => rfl)))))))
theorem tm__law_planted {P : Program} {w : World} {K : PySem.W.Frag} {mg : Str → Option Value} {base : Heap} {A : Adr} (T : Txt K mg A) (B : BM mg base) (C : PySem.W.CodeHd base A.k__law_planted A.t__law_planted)  (Ar : Around) (outer : List Env) (s : Shared) (H : Hp) (E : XK)
    (hr : Room 0 (Ar.deeper (envOfC "_law_planted" (defScope s__law_planted) s.heap.objs.size A.a__law_planted (.ref A.k__law_planted)))) : QMs (cxOf (CX1 P w) P w K mg base ["_law_one", "_law_other", "_law_book", "_law_stamp_of"] "_law_planted" (defScope s__law_planted) A.a__law_planted (.ref A.k__law_planted) Ar outer s H E).nox (defBody s__law_planted) (T__law_planted K A (s.heap.objs.size + 1) (s.heap.objs.size + 1 + 1) (s.heap.objs.size + 1 + 1 + 1)) := (
  y_cons (y_lift (x_set 2 sc__law_planted.nd (x_dnewA))) (y_cons (y_lift (x_def 3 sc__law_planted.nd B C rfl (by rfl) (by simp) rfl rfl rfl rfl (fun _ _ _ _ _ us hl => match us, hl with | [_], _ => rfl))) (y_cons (y_if (x_tcmp (oEqB hr.units150) (x_var 0) (x_var 1)) (y_one (y_ret (x_lam B C rfl (by rfl) (by simp) rfl rfl rfl rfl (fun _ _ _ _ us hl => match us, hl with | [_], _ => rfl)))) (y_nil)) (y_one (y_ret (x_var 3))))))
theorem tm__law_due {P : Program} {w : World} {K : PySem.W.Frag} {mg : Str → Option Value} {base : Heap} {A : Adr} (T : Txt K mg A) (HK1 : KindsOk P w K mg base 2 (Knd1 K A)) (cdv : Value) (Ar : Around) (outer : List Env) (s : Shared) (H : Hp) (E : XK)
    (hr : Room 2 (Ar.deeper (envOfC "_law_due" (defScope s__law_due) s.heap.objs.size A.a__law_due cdv))) : PSs (cxOf (CX1 P w) P w K mg base ["_law_stamper", "_law_terms", "_law_stamps", "_law_k", "_law_j"] "_law_due" (defScope s__law_due) A.a__law_due cdv Ar outer s H E).nox (defBody s__law_due) (T__law_due K A) := QSs.out (
  x_scons (x_setComp (ys := ["_law_stamper"]) 2 sc__law_due.nd (by exact ⟨rfl, by decide +kernel, by decide +kernel, rfl, by decide +kernel, by decide +kernel⟩) (by exact .cons rfl (by first | exact .inl rfl | exact .inr rfl) rfl (.nil)) (x_seqA (x_var 1)) (fun C s H fp => x_noif) (fun C s H fp => (x_held HK1 (hr.mono (by decide)) passF (x_var 1) (x_cons (x_var 0) (x_nil))))) (x_scons (x_for 3 sc__law_due.nd (x_range1 T.z_range (x_cons (x_callB cLenA T.z_len PySem.boot_len (x_cons (x_var 1) (x_nil))) (x_nil))) (x_sone (x_for 4 sc__law_due.nd (x_range1 T.z_range (x_cons (x_var 3) (x_nil))) (x_sone (x_ifS (x_w (x_wand (x_tcmp (oNeB hr.units150) (x_ix (ix_any hr.units1) (x_var 1) (x_var 4) (fun _ _ => rfl)) (x_ix (ix_any hr.units1) (x_var 1) (x_var 3) (fun _ _ => rfl))) (x_wand1 (x_tcmp (oEqB hr.units150) (x_ix (ix_any hr.units1) (x_var 2) (x_var 4) (fun _ _ => rfl)) (x_ix (ix_any hr.units1) (x_var 2) (x_var 3) (fun _ _ => rfl)))))) (x_sone (x_ret (x_tup (x_cons (x_ix (ix_any hr.units1) (x_var 1) (x_var 4) (fun _ _ => rfl)) (x_cons (x_ix (ix_any hr.units1) (x_var 1) (x_var 3) (fun _ _ => rfl)) (x_nil)))))) (x_snil))) PassesOwn.never)) PassesOwn.never) (x_sone (x_ret (x_non)))))
theorem tm__law_alike {P : Program} {w : World} {K : PySem.W.Frag} {mg : Str → Option Value} {base : Heap} {A : Adr} (T : Txt K mg A)  (cdv : Value) (Ar : Around) (outer : List Env) (s : Shared) (H : Hp) (E : XK)
    (hr : Room 0 (Ar.deeper (envOfC "_law_alike" (defScope s__law_alike) s.heap.objs.size A.a__law_alike cdv))) : PSs (cxOf (CX1 P w) P w K mg base ["_law_found", "_law_due_here"] "_law_alike" (defScope s__law_alike) A.a__law_alike cdv Ar outer s H E).nox (defBody s__law_alike) (T__law_alike K A) := QSs.out (
  x_scons (x_ifS (x_tcmp oIs (x_var 1) (x_non)) (x_sone (x_ret (x_cmp oIs (x_var 0) (x_non)))) (x_snil)) (x_scons (x_ifS (x_w (x_wor (x_tnot (x_test (x_callB cIsi T.z_isinstance boot_isinstance (x_cons (x_var 0) (x_cons (x_ty T.z_tuple boot_tuple) (x_nil)))))) (x_wor1 (x_tcmp (oNeB hr.units150) (x_callB cLenA T.z_len PySem.boot_len (x_cons (x_var 0) (x_nil))) (x_int))))) (x_sone (x_ret (x_bl))) (x_snil)) (x_sone (x_ret (x_and (x_callB cIsi T.z_isinstance boot_isinstance (x_cons (x_ix (ix_any hr.units1) (x_var 0) (x_int) (fun _ _ => rfl)) (x_cons (x_ty T.z_tuple boot_tuple) (x_nil)))) (x_and (x_callB cIsi T.z_isinstance boot_isinstance (x_cons (x_ix (ix_any hr.units1) (x_var 0) (x_int) (fun _ _ => rfl)) (x_cons (x_ty T.z_tuple boot_tuple) (x_nil)))) (x_one (x_cmp (oEqB hr.units150) (x_var 0) (x_var 1)))))))))
theorem tm_clash {P : Program} {w : World} {K : PySem.W.Frag} {mg : Str → Option Value} {base : Heap} {A : Adr} (T : Txt K mg A) (HK1 : KindsOk P w K mg base 2 (Knd1 K A)) (cdv : Value) (Ar : Around) (outer : List Env) (s : Shared) (H : Hp) (E : XK)
    (hr : Room 2 (Ar.deeper (envOfC "clash" (defScope s_clash) s.heap.objs.size A.a_clash cdv))) : PSs (cxOf (CX1 P w) P w K mg base ["stamper", "terms", "firsts", "term", "ahead"] "clash" (defScope s_clash) A.a_clash cdv Ar outer s H E).nox (defBody s_clash) (T_clash K A) := QSs.out (
  x_scons (x_set 2 sc_clash.nd (x_dnewA)) (x_scons (x_for 3 sc_clash.nd (x_seqA (x_var 1)) (x_scons (x_set 4 sc_clash.nd (x_bm PySem.F.plainAttrs_dict PySem.F.slot_dict_setdefault PySem.F.type_dict_setdefault (mt_setdef hr.units1) (x_var 2) (x_cons (x_held HK1 (hr.mono (by decide)) passF (x_var 0) (x_cons (x_var 3) (x_nil))) (x_cons (x_var 3) (x_nil))))) (x_sone (x_ifS (x_tcmp (oNeB hr.units150) (x_var 4) (x_var 3)) (x_sone (x_ret (x_tup (x_cons (x_var 4) (x_cons (x_var 3) (x_nil)))))) (x_snil)))) PassesOwn.never) (x_sone (x_ret (x_non)))))
theorem tm_law {P : Program} {w : World} {K : PySem.W.Frag} {mg : Str → Option Value} {base : Heap} {A : Adr} (T : Txt K mg A) (G__law_term : FnOk P w K mg base (CX1 P w) 1 A.a__law_term A.d__law_term ["_law_cell"] (sp__law_term K A)) (G__law_cell_at : FnOk P w K mg base (CX1 P w) 1 A.a__law_cell_at A.d__law_cell_at ["_law_script", "_law_k"] (sp__law_cell_at K A)) (G__law_weak : FnOk P w K mg base (CX1 P w) 1 A.a__law_weak A.d__law_weak ["_law_cell"] (sp__law_weak K A)) (G__law_planted : FnOk P w K mg base (CX1 P w) 1 A.a__law_planted A.d__law_planted ["_law_one", "_law_other"] (sp__law_planted K A)) (G__law_due : FnOk P w K mg base (CX1 P w) 3 A.a__law_due A.d__law_due ["_law_stamper", "_law_terms"] (sp__law_due K A)) (G__law_alike : FnOk P w K mg base (CX1 P w) 1 A.a__law_alike A.d__law_alike ["_law_found", "_law_due_here"] (sp__law_alike K A)) (G_clash : FnOk P w K mg base (CX1 P w) 3 A.a_clash A.d_clash ["stamper", "terms"] (sp_clash K A)) (cdv : Value) (Ar : Around) (outer : List Env) (s : Shared) (H : Hp) (E : XK)
    (hr : Room 3 (Ar.deeper (envOfC "law" (defScope s_law) s.heap.objs.size A.a_law cdv))) : PSs (cxOf (CX1 P w) P w K mg base ["_law_script", "_law_terms", "_law_first", "_law_stamper", "_law_more", "_law_handed", "_law_due_here"] "law" (defScope s_law) A.a_law cdv Ar outer s H E).nox (defBody s_law) (T_law K A) := QSs.out (
  x_scons (x_setComp (ys := []) 1 sc_law.nd (by exact ⟨rfl, by decide +kernel, by decide +kernel, rfl, by decide +kernel, by decide +kernel⟩) (by exact .nil) (x_seqA (x_slice sl_all (x_var 0) (x_osome (x_int)) (x_osome (x_int)))) (fun C s H fp => x_noif) (fun C s H fp => (x_callX G__law_term (hr.mono (by decide)) T.m__law_term T.f__law_term.kp T.b__law_term passF (x_cons (x_var 0) (x_nil))))) (x_scons (x_set 2 sc_law.nd (x_callX G__law_cell_at (hr.mono (by decide)) T.m__law_cell_at T.f__law_cell_at.kp T.b__law_cell_at passF (x_cons (x_var 0) (x_cons (x_int) (x_nil))))) (x_scons (x_set 3 sc_law.nd (x_callX G__law_weak (hr.mono (by decide)) T.m__law_weak T.f__law_weak.kp T.b__law_weak passF (x_cons (x_op oFdiv (x_var 2) (x_int)) (x_nil)))) (x_scons (x_ifS (x_w (x_wand (x_tcmp (oEqB hr.units150) (x_op oMod (x_var 2) (x_int)) (x_int)) (x_wand1 (x_tcmp oGt (x_callB cLenA T.z_len PySem.boot_len (x_cons (x_var 1) (x_nil))) (x_int))))) (x_scons (x_set 4 sc_law.nd (x_callX G__law_cell_at (hr.mono (by decide)) T.m__law_cell_at T.f__law_cell_at.kp T.b__law_cell_at passF (x_cons (x_var 0) (x_cons (x_int) (x_nil))))) (x_sone (x_set 3 sc_law.nd (x_callX G__law_planted (hr.mono (by decide)) T.m__law_planted T.f__law_planted.kp T.b__law_planted passF (x_cons (x_ix (ix_any hr.units1) (x_var 1) (x_op oMod (x_var 4) (x_callB cLenA T.z_len PySem.boot_len (x_cons (x_var 1) (x_nil)))) (fun _ _ => rfl)) (x_cons (x_ix (ix_any hr.units1) (x_var 1) (x_op oMod (x_op oFdiv (x_var 4) (x_int)) (x_callB cLenA T.z_len PySem.boot_len (x_cons (x_var 1) (x_nil)))) (fun _ _ => rfl)) (x_nil))))))) (x_snil)) (x_scons (x_set 5 sc_law.nd (x_callTy cList T.z_list boot_list (x_cons (x_var 1) (x_nil)))) (x_scons (x_set 6 sc_law.nd (x_callX G__law_due (hr.mono (by decide)) T.m__law_due T.f__law_due.kp T.b__law_due passF (x_cons (x_var 3) (x_cons (x_var 1) (x_nil))))) (x_scons (x_ifS (x_w (x_wor (x_tnot (x_test (x_callX G__law_alike (hr.mono (by decide)) T.m__law_alike T.f__law_alike.kp T.b__law_alike passF (x_cons (x_callX G_clash (hr.mono (by decide)) T.m_clash T.f_clash.kp T.b_clash passF (x_cons (x_var 3) (x_cons (x_var 5) (x_nil)))) (x_cons (x_var 6) (x_nil)))))) (x_wor1 (x_tcmp (oNeB hr.units150) (x_var 5) (x_var 1))))) (x_sone (x_ret (x_bl))) (x_snil)) (x_scons (x_drop (x_callX G_clash (hr.mono (by decide)) T.m_clash T.f_clash.kp T.b_clash passF (x_cons (x_var 3) (x_cons (x_op oAddG (x_callTy cList T.z_list boot_list (x_cons (x_var 1) (x_nil))) (x_lst (x_cons (x_tup (x_cons (x_str) (x_cons (x_int) (x_nil)))) (x_cons (x_tup (x_cons (x_str) (x_cons (x_int) (x_nil)))) (x_nil))))) (x_nil))))) (x_sone (x_ret (x_and (x_callX G__law_alike (hr.mono (by decide)) T.m__law_alike T.f__law_alike.kp T.b__law_alike passF (x_cons (x_callX G_clash (hr.mono (by decide)) T.m_clash T.f_clash.kp T.b_clash passF (x_cons (x_var 3) (x_cons (x_var 5) (x_nil)))) (x_cons (x_var 6) (x_nil)))) (x_one (x_cmp oIs (x_callX G_clash (hr.mono (by decide)) T.m_clash T.f_clash.kp T.b_clash passF (x_cons (x_var 3) (x_cons (x_lst (x_nil)) (x_nil)))) (x_non))))))))))))))
end Rs
namespace Rs
open PySem PySem.Spec PyProof.Rows L2
theorem okT_mem {k : List Key} {x : Key} (h : okT k = true) (hx : x ∈ k) : okP x = true := List.all_eq_true.mp (Bool.and_eq_true_iff.mp h).1 x hx
theorem str40 : ∀ n : Fin 40, (Str.ofString (toString (((n : Nat) : Int)))).length ≤ 2 ∧ (Str.ofString (toString (((n : Nat) : Int)))).cps.all (· < 128) = true := by decide +kernel
theorem sumz_take {z : Str} {j : Nat} (hj : j < z.length) : ((z.cps.toList.take (j + 1)).map fun c => ((c : Nat) : Int)).sum = ((z.cps.toList.take j).map fun c => ((c : Nat) : Int)).sum + ((z.cps.getD j 0 : Nat) : Int) := by
  have hj' : j < z.cps.size := hj
  rw [List.take_succ]
  simp [hj', Array.getD_eq_getD_getElem?]
variable {K : PySem.W.Frag} {mg : Str → Option Value} {A : Adr}
theorem len__law_sum (K : PySem.W.Frag) (A : Adr) : ∀ vs H Q E, sp__law_sum K A vs H Q E → vs.length = 1 := by rintro vs H Q E ⟨p, k, rfl, _⟩; rfl
theorem rd__law_sum (T : Txt K mg A) (vs : List V) (H : Hp) (Q : VK) (E : XK) (h : sp__law_sum K A vs H Q E) : T__law_sum K A { nx := fun _ H' => Q .non H', rt := Q } (start ["_law_term_here", "_law_total", "_law_part", "_law_sign"] vs) H := by
  obtain ⟨p, k, rfl, hp, ok, q⟩ := h
  refine ⟨p, rfl, .inr ⟨⟨_, SqT.of hp⟩, ?_⟩⟩
  refine for_tup (xs := k.map kV) (fun i σ H' => H' = H ∧ ∃ x2 x3, σ = [some (.ref p), some (.int ((k.take i).foldl step 0)), x2, x3]) ⟨rfl, none, none, rfl⟩ ?_ ?_ ?_
  · rintro i σ _ _ ⟨rfl, _⟩; exact SqT.of hp
  · rintro i x σ _ hx ⟨rfl, x2, x3, rfl⟩
    obtain ⟨kk, hk, rfl⟩ := map_get hx
    have okk : okP kk = true := okT_mem ok (List.mem_of_getElem? hk)
    have st := foldl_take step 0 k i kk hk
    cases kk with
    | inl n =>
      refine ⟨by decide, "int", rfl, Sel.no rfl ⟨IntMulOk.of_right (by decide), rfl, some (.int n), x3, ?_⟩⟩
      rw [st]; rfl
    | inr z =>
      obtain ⟨hz, hl⟩ := Bool.and_eq_true_iff.mp okk
      have hl := of_decide_eq_true hl
      refine ⟨by decide, "str", rfl, Sel.yes rfl ⟨IntMulOk.of_right (by decide), .inl ⟨line_ge (by omega), IntMulOk.of_left (by decide), hz, ?_⟩⟩⟩
      refine for_by (Items.str z) (fun j σ H' => H' = _ ∧ ∃ x3, σ = [some (.ref p), some (.int ((k.take i).foldl step 0 * 7 + 3 * z.length + ((z.cps.toList.take j).map fun c => ((c : Nat) : Int)).sum)), some (.str z), x3]) ⟨rfl, x3, ?_⟩ (fun _ _ _ _ _ => trivial) ?_ ?_
      · show _ = [some (V.ref p), some (V.int (_ + 0)), _, _]
        rw [Int.add_zero]; rfl
      · rintro j σ _ hj ⟨rfl, y3, rfl⟩
        refine ⟨rfl, rfl, some (.str ⟨#[z.cps.getD j 0]⟩), ?_⟩
        rw [sumz_take hj, ← Int.add_assoc]; rfl
      · rintro σ _ ⟨rfl, y3, rfl⟩
        refine ⟨rfl, some (.str z), y3, ?_⟩
        rw [st]
        have e : z.cps.toList.take z.length = z.cps.toList := List.take_of_length_le (by simp [Str.length])
        rw [e]; rfl
  · rintro σ _ ⟨rfl, x2, x3, rfl⟩
    show Q (.int _) _
    have e : k.take (k.map kV).length = k := List.take_of_length_le (by simp)
    rw [e]; exact q
theorem rd__law_weak__c0 (T : Txt K mg A) (a0 b0 : V) (H : Hp) (Q : VK) (E : XK) (h : sp__law_weak__c0 K A [a0, b0] H Q E) : T__law_weak__c0 K A (startC ["_law_term_here", "_law_many"] [a0] [b0]) H Q := by
  obtain ⟨p, m, k, e, h1, h2, hp, ok, q⟩ := h
  cases e
  exact ⟨p, k, rfl, hp, ok, by omega, q⟩
theorem mod40 {m x : Int} (h1 : 1 ≤ m) (h2 : m ≤ 40) : 0 ≤ x % m ∧ x % m < 40 := ⟨Int.emod_nonneg _ (by omega), Int.lt_of_lt_of_le (Int.emod_lt_of_pos _ (by omega)) h2⟩
theorem log40 {x : Int} (h : 0 ≤ x ∧ x < 40) : x.natAbs.log2 < 1920 := Nat.lt_of_le_of_lt (Nat.log2_le_self _) (by omega)
theorem sl40 {x : Int} (h : 0 ≤ x ∧ x < 40) : (Str.ofString (toString x)).length ≤ 2 := by
  obtain ⟨j, rfl⟩ := Int.eq_ofNat_of_zero_le h.1
  exact (str40 ⟨j, by omega⟩).1
theorem rd__law_weak__c1 (T : Txt K mg A) (a0 b0 : V) (H : Hp) (Q : VK) (E : XK) (h : sp__law_weak__c1 K A [a0, b0] H Q E) : T__law_weak__c1 K A (startC ["_law_other", "_law_many"] [a0] [b0]) H Q := by
  obtain ⟨p, m, k, e, h1, h2, hp, ok, q⟩ := h
  cases e
  have b := mod40 (x := sumK k) h1 h2
  exact ⟨p, k, rfl, hp, ok, by omega, log40 b, Nat.le_trans (Nat.add_le_add (Nat.le_refl 1) (sl40 b)) (line_ge (by decide)), q⟩
theorem rd__law_weak__c2 (T : Txt K mg A) (a0 b0 : V) (H : Hp) (Q : VK) (E : XK) (h : sp__law_weak__c2 K A [a0, b0] H Q E) : T__law_weak__c2 K A (startC ["_law_mixed", "_law_many"] [a0] [b0]) H Q := by
  obtain ⟨p, m, k, e, h1, h2, hp, ok, q⟩ := h
  cases e
  have b := mod40 (x := sumK k) h1 h2
  refine ⟨p, k, rfl, hp, ok, by omega, p, k, rfl, hp, ok, by omega, log40 b, line_ge (n := 2) (by decide), fun l hl => .inl (.inr (.inl ⟨_, SqT.of (Same.upd hl _ _ hp), by decide, ?_⟩))⟩
  have S := Same.upd (o := .lst [V.int (sumK k % m), V.str (toString (sumK k % m))]) hl
  have q := q _ S
  unfold weakK at q
  have hk : k.length % 2 = 0 ∨ k.length % 2 = 1 := by omega
  have hlen : ((k.map kV).length : Int) % 2 = ((k.length % 2 : Nat) : Int) := by simp
  rw [hlen]
  rcases hk with e | e
  · rw [e, if_pos rfl] at q; rw [e]
    exact .inl (.inl ⟨l, _, _, _, rfl, rfl, SqL.of upd_same, rfl, q⟩)
  · rw [e, if_neg (by decide)] at q; rw [e]
    exact .inl (.inl ⟨l, _, _, _, rfl, rfl, SqL.of upd_same, rfl, q⟩)
theorem dget_t {H : Hp} {b p : Addr} {kvs : List (List Key × V)} {kk : List Key} {d : Int} (hb : H b = some (.dT kvs)) (hp : H p = some (.tup (kk.map kV))) (hl : kvs.length ≤ 1000) :
    DDef H b (.ref p) (.int d) (defV kvs kk d) (defH H b kvs kk d) := by
  unfold defV defH
  have g := DGet.t hb hp
  cases e : valV kvs kk with
  | some v => rw [e] at g; exact .inl ⟨g, if_pos rfl⟩
  | none => rw [e] at g; exact .inr ⟨g, .inr ⟨kvs, kk, p, hb, rfl, hp, Nat.lt_of_le_of_lt hl (line_ge (n := 1001) (by decide)), if_neg (by decide)⟩, rfl⟩
theorem rd__law_planted__c1 (T : Txt K mg A) (a0 b0 : V) (H : Hp) (Q : VK) (E : XK) (h : sp__law_planted__c1 K A [a0, b0] H Q E) : T__law_planted__c1 K A (startC ["_law_term_here", "_law_book"] [a0] [b0]) H Q := by
  obtain ⟨p, b, k, kvs, e, hp, hb, hl, q⟩ := h
  cases e
  exact ⟨.inr (.inr (.inl ⟨rfl, .inr ⟨_, hb⟩⟩)), .inr ⟨b, kvs, rfl, hb, b, .ref p, .int kvs.length, _, _, rfl, rfl, dget_t hb hp hl, q⟩⟩
theorem rd__law_planted__c0 (T : Txt K mg A) (a0 b0 b1 b2 : V) (H : Hp) (Q : VK) (E : XK) (h : sp__law_planted__c0 K A [a0, b0, b1, b2] H Q E) : T__law_planted__c0 K A { nx := fun _ H' => Q .non H', rt := Q } (startC ["_law_term_here", "_law_other", "_law_one", "_law_book"] [a0] [b0, b1, b2]) H := by
  obtain ⟨p, o2, o1, b, k, k1, k2, kvs, e, hp, h1, h2, ok, ok1, hb, hl, q⟩ := h
  cases e
  have go : ∀ (x : Addr) (kk : List Key), H x = some (.tup (kk.map kV)) → (if k = k1 then k2 else k) = kk → (tRet (tBM K "dict" rSetDef (mVar 3) (tCons (mVar 0) (tCons (tOp (mAddG K) (tOp (mMulA) (tC (.int 3)) (tCB (kLenA K) (tCons (mVar 3) (tNil)))) (tC (.int 5))) (tNil))))) { nx := fun _ H' => Q .non H', rt := Q } [some (.ref x), some (.ref o2), some (.ref o1), some (.ref b)] H := by
    intro x kk hx ek
    rw [ek] at q
    exact ⟨.inr (.inr (.inl ⟨rfl, .inr ⟨_, hb⟩⟩)), .inr ⟨b, kvs, rfl, hb, IntMulOk.of_left (by decide), b, .ref x, .int (3 * kvs.length + 5), _, _, rfl, rfl, dget_t hb hx hl, q⟩⟩
  refine eqT_keys hp h1 (Sel.dec (fun e => ?_) (fun e => ?_))
  · exact go o2 k2 h2 (if_pos e)
  · exact go p k hp (if_neg e)
end Rs
namespace Rs
open PySem PySem.Spec PyProof.Rows L2
theorem abc3 : ∀ i n : Fin 3, atI ("abc" : Str).cps.toList ((i : Nat) : Int) = some (("abc" : Str).cps.toList.getD i 0) ∧ okP (.inr (PySem.Txt.mul ⟨#[("abc" : Str).cps.toList.getD i 0]⟩ ((n : Nat) : Int))) = true := by decide +kernel
theorem xy3 : ∀ (i : Fin 2) (n : Fin 3), atI ("xy" : Str).cps.toList ((i : Nat) : Int) = some (("xy" : Str).cps.toList.getD i 0) ∧ okP (.inr (PySem.Txt.mul ⟨#[("xy" : Str).cps.toList.getD i 0]⟩ ((n : Nat) : Int))) = true := by decide +kernel
theorem ixAbc {K : PySem.W.Frag} {H : Hp} {i : Int} {R : VK} (i0 : 0 ≤ i) (i1 : i < 3) (q : ∀ c, (∀ n : Int, 0 ≤ n → n < 3 → okP (.inr (PySem.Txt.mul ⟨#[c]⟩ n)) = true) → R (.str ⟨#[c]⟩) H) : rIxA K (.str "abc") (.int i) H R := by
  obtain ⟨a, rfl⟩ := Int.eq_ofNat_of_zero_le i0
  refine .inl (.inr (.inr ⟨_, _, _, rfl, rfl, line_ge (by decide), (abc3 ⟨a, by omega⟩ 0).1, q _ fun n n0 n1 => ?_⟩))
  obtain ⟨b, rfl⟩ := Int.eq_ofNat_of_zero_le n0
  exact (abc3 ⟨a, by omega⟩ ⟨b, by omega⟩).2
theorem ixXy {K : PySem.W.Frag} {H : Hp} {i : Int} {R : VK} (i0 : 0 ≤ i) (i1 : i < 2) (q : ∀ c, (∀ n : Int, 0 ≤ n → n < 3 → okP (.inr (PySem.Txt.mul ⟨#[c]⟩ n)) = true) → R (.str ⟨#[c]⟩) H) : rIxA K (.str "xy") (.int i) H R := by
  obtain ⟨a, rfl⟩ := Int.eq_ofNat_of_zero_le i0
  refine .inl (.inr (.inr ⟨_, _, _, rfl, rfl, line_ge (by decide), (xy3 ⟨a, by omega⟩ 0).1, q _ fun n n0 n1 => ?_⟩))
  obtain ⟨b, rfl⟩ := Int.eq_ofNat_of_zero_le n0
  exact (xy3 ⟨a, by omega⟩ ⟨b, by omega⟩).2
variable {K : PySem.W.Frag} {mg : Str → Option Value} {A : Adr}
theorem len__law_term (K : PySem.W.Frag) (A : Adr) : ∀ vs H Q E, sp__law_term K A vs H Q E → vs.length = 1 := by rintro vs H Q E ⟨c, rfl, _⟩; rfl
theorem rd__law_term (T : Txt K mg A) (vs : List V) (H : Hp) (Q : VK) (E : XK) (h : sp__law_term K A vs H Q E) : T__law_term K A { nx := fun _ H' => Q .non H', rt := Q } (start ["_law_cell", "_law_number", "_law_term_here", "_law_k"] vs) H := by
  obtain ⟨c, rfl, q⟩ := h
  refine ⟨⟨by decide, by decide⟩, by decide, ixAbc (by omega) (by omega) fun s hs => ⟨⟨by decide, by decide⟩, by decide, ⟨by omega, by omega, by show 1 ≤ 1000; decide⟩, line_ge (n := 1) (by decide), fun p hp => ?_⟩⟩
  have hz := hs (1 + c / 4 / 3 % 2) (by omega) (by omega)
  generalize PySem.Txt.mul ⟨#[s]⟩ (1 + c / 4 / 3 % 2) = z at hz ⊢
  have hc0 : 0 ≤ c % 4 := by omega
  have hc1 : c % 4 < 4 := by omega
  refine ⟨by decide, c % 4, rfl, by omega, by omega, ?_⟩
  refine for_range (fun i σ H' => ∃ num p k x3, σ = [some (.int c), some (.int num), some (.ref p), x3] ∧ Same H H' ∧ H' p = some (.tup (k.map kV)) ∧ k.all okP = true ∧ k.length = i + 1)
    ⟨c / 4, p, [.inr z], none, rfl, Same.upd hp, upd_same, by rw [List.all_cons, hz]; rfl, rfl⟩ ?_ ?_
  · rintro i σ H1 hi ⟨num, p, k, x3, rfl, S, hk, ho, hl⟩
    have hi4 : i < 4 := by omega
    refine ⟨⟨by decide, by decide⟩, by decide, Sel.dec (fun h => ?_) (fun h => ?_)⟩
    · refine ⟨⟨by decide, by decide⟩, by decide, ixXy (by omega) (by omega) fun s hs => ⟨⟨by decide, by decide⟩, by decide, ⟨by omega, by omega, by show 1 ≤ 1000; decide⟩, line_ge (n := 1) (by decide), fun p1 hp1 => ?_⟩⟩
      have hz := hs (num / 6 / 3 % 3) (by omega) (by omega)
      generalize PySem.Txt.mul ⟨#[s]⟩ (num / 6 / 3 % 3) = z at hz ⊢
      refine .inr ⟨p, p1, _, _, rfl, rfl, Same.upd hp1 _ _ hk, upd_same, line_ge (by simp; omega), fun p2 H2 S2 h2 => ?_⟩
      refine ⟨num / 6, p2, k ++ [.inr z], _, rfl, S.trans ((Same.upd hp1).trans S2), by rw [h2, List.map_append]; rfl, by rw [List.all_append, ho, List.all_cons, hz]; rfl, by rw [List.length_append, hl]; rfl⟩
    · refine ⟨by decide, line_ge (n := 1) (by decide), fun p1 hp1 => ?_⟩
      refine .inr ⟨p, p1, _, _, rfl, rfl, Same.upd hp1 _ _ hk, upd_same, line_ge (by simp; omega), fun p2 H2 S2 h2 => ?_⟩
      refine ⟨num / 6, p2, k ++ [.inl (num / 6 % 7)], _, rfl, S.trans ((Same.upd hp1).trans S2), by rw [h2, List.map_append]; rfl, ?_, by rw [List.length_append, hl]; rfl⟩
      rw [List.all_append, ho, List.all_cons]
      have : okP (.inl (num / 6 % 7)) = true := decide_eq_true (by omega)
      rw [this]; rfl
  · rintro σ H1 ⟨num, p, k, x3, rfl, S, hk, ho, hl⟩
    refine q p k H1 S hk ?_
    unfold okT
    rw [ho, decide_eq_true (by omega)]; rfl
theorem len__law_cell_at (K : PySem.W.Frag) (A : Adr) : ∀ vs H Q E, sp__law_cell_at K A vs H Q E → vs.length = 2 := by rintro vs H Q E ⟨a, ns, k, rfl, _⟩; rfl
theorem rd__law_cell_at (T : Txt K mg A) (vs : List V) (H : Hp) (Q : VK) (E : XK) (h : sp__law_cell_at K A vs H Q E) : T__law_cell_at K A { nx := fun _ H' => Q .non H', rt := Q } (start ["_law_script", "_law_k"] vs) H := by
  obtain ⟨a, ns, k, rfl, hs, h0, q⟩ := h
  refine .inl (.inl ⟨_, hs, Sel.dec (fun h => ?_) (fun h => q 0)⟩)
  obtain ⟨v, hv⟩ := atI_ex h0 h
  obtain ⟨j, _, hj, _⟩ := atI_get hv
  obtain ⟨z, _, rfl⟩ := map_get hj
  exact .inl (.inl ⟨a, _, k, _, rfl, rfl, hs, hv, q z⟩)
theorem KeepP.rfl' {P : Addr} {H : Hp} : KeepP P H H := fun _ _ e _ => e
theorem KeepP.trans {P : Addr} {H H1 H2 : Hp} (a : KeepP P H H1) (b : KeepP P H1 H2) : KeepP P H H2 := fun x o e n => b x o (a x o e n) n
theorem KeepP.new {P p : Addr} {H : Hp} {o : HO} (h : H p = none) : KeepP P H (upd H p o) := fun b u e _ => by rw [upd_ne (ne_of_none e h)]; exact e
theorem KeepP.tab {P : Addr} {H : Hp} {o : HO} : KeepP P H (upd H P o) := fun b u e n => by rw [upd_ne n]; exact e
theorem fresh_ne {H : Hp} {P q : Addr} {o : HO} (hP : H P = some o) (hq : H q = none) : q ≠ P := fun e => by rw [e, hP] at hq; cases hq
theorem len__law_weak (K : PySem.W.Frag) (A : Adr) : ∀ vs H Q E, sp__law_weak K A vs H Q E → vs.length = 1 := by rintro vs H Q E ⟨c, rfl, _⟩; rfl
theorem made1 {H : Hp} {P c f q : Addr} {o1 o2 : HO} {t : CloT} {v : V} (hP : H P = some o1) (hc : H c = none) (hf : H f = none) (hne : c ≠ f) (hq : upd (upd (upd H P o2) c (codeO c t.qual)) f (cloO f t [q] c) q = none) :
    KeepP P H (upd (upd (upd (upd H P o2) c (codeO c t.qual)) f (cloO f t [q] c)) q (cellO q v)) ∧ CloAt (upd (upd (upd (upd H P o2) c (codeO c t.qual)) f (cloO f t [q] c)) q (cellO q v)) f t [q] [v] := by
  have c1 : upd H P o2 c = none := by rw [upd_ne (fresh_ne hP hc)]; exact hc
  have f1 : upd (upd H P o2) c (codeO c t.qual) f = none := by rw [upd_ne (Ne.symm hne), upd_ne (fresh_ne hP hf)]; exact hf
  have S3 := KeepP.new (P := P) (o := cellO q v) hq
  have S2 := (KeepP.new (P := P) (o := cloO f t [q] c) f1).trans S3
  have S1 := (KeepP.new (P := P) (o := codeO c t.qual) c1).trans S2
  exact ⟨KeepP.tab.trans S1, ⟨⟨c, S3 _ _ upd_same (fresh_ne hP hf), S2 _ _ upd_same (fresh_ne hP hc)⟩, .cons upd_same .nil⟩⟩
theorem rd__law_weak (T : Txt K mg A) (q0 : Addr) (hnd : [q0].Nodup) (vs : List V) (H : Hp) (Q : VK) (E : XK) (h : sp__law_weak K A vs H Q E) : T__law_weak K A q0 { nx := fun σ H' => (∀ p ∈ ([(1, q0)] : List (Nat × Addr)), H' p.2 = none) → Q .non (trackC [(1, q0)] σ H'), rt := fun σ v H' => (∀ p ∈ ([(1, q0)] : List (Nat × Addr)), H' p.2 = none) → Q v (trackC [(1, q0)] σ H') } (start ["_law_cell", "_law_many"] vs) H := by
  obtain ⟨c, rfl, hP, q⟩ := h
  have m1 : 1 ≤ 1 + c % 40 := by omega
  have m2 : 1 + c % 40 ≤ 40 := by omega
  refine ⟨by decide, ⟨by decide, by decide⟩, by decide, Sel.dec (fun h => ?_) (fun h => ?_)⟩
  · refine ⟨#[], hP, trivial, .inl ⟨rfl, fun cc f hc hf hne hq => ?_⟩⟩
    obtain ⟨k, ca⟩ := made1 (v := .int (1 + c % 40)) hP hc hf hne (hq _ (List.mem_singleton.mpr rfl))
    exact q f _ _ k (.w0 q0 _ m1 m2 ca rfl)
  refine ⟨⟨by decide, by decide⟩, by decide, Sel.dec (fun h => ?_) (fun h => ?_)⟩
  · refine ⟨#[], hP, trivial, .inl ⟨rfl, fun cc f hc hf hne hq => ?_⟩⟩
    obtain ⟨k, ca⟩ := made1 (v := .int (1 + c % 40)) hP hc hf hne (hq _ (List.mem_singleton.mpr rfl))
    exact q f _ _ k (.w1 q0 _ m1 m2 ca rfl)
  · refine ⟨#[], hP, trivial, .inl ⟨rfl, fun cc f hc hf hne hq => ?_⟩⟩
    obtain ⟨k, ca⟩ := made1 (v := .int (1 + c % 40)) hP hc hf hne (hq _ (List.mem_singleton.mpr rfl))
    exact q f _ _ k (.w2 q0 _ m1 m2 ca rfl)
theorem len__law_planted (K : PySem.W.Frag) (A : Adr) : ∀ vs H Q E, sp__law_planted K A vs H Q E → vs.length = 2 := by rintro vs H Q E ⟨o1, o2, k1, k2, rfl, _⟩; rfl
theorem rd__law_planted (T : Txt K mg A) (q0 q1 q2 : Addr) (hnd : [q0, q1, q2].Nodup) (vs : List V) (H : Hp) (Q : VK) (E : XK) (h : sp__law_planted K A vs H Q E) : T__law_planted K A q0 q1 q2 { nx := fun σ H' => (∀ p ∈ ([(0, q0), (1, q1), (2, q2)] : List (Nat × Addr)), H' p.2 = none) → Q .non (trackC [(0, q0), (1, q1), (2, q2)] σ H'), rt := fun σ v H' => (∀ p ∈ ([(0, q0), (1, q1), (2, q2)] : List (Nat × Addr)), H' p.2 = none) → Q v (trackC [(0, q0), (1, q1), (2, q2)] σ H') } (start ["_law_one", "_law_other", "_law_book", "_law_stamp_of"] vs) H := by
  obtain ⟨o1, o2, k1, k2, rfl, h1, h2, w1, w2, hP, q⟩ := h
  have n01 : q0 ≠ q1 := fun e => by simp [e] at hnd
  have n02 : q0 ≠ q2 := fun e => by simp [e] at hnd
  have n12 : q1 ≠ q2 := fun e => by simp [e] at hnd
  refine .inr fun b hb => ?_
  have bP : b ≠ A.t__law_planted := fresh_ne hP hb
  have hP1 : upd H b (.dT []) A.t__law_planted = some (.tbl #[]) := by rw [upd_ne (Ne.symm bP)]; exact hP
  have S1 : KeepP A.t__law_planted H (upd H b (.dT [])) := KeepP.new hb
  have o1P : o1 ≠ A.t__law_planted := ne_of h1 hP (fun z => nomatch z)
  have o2P : o2 ≠ A.t__law_planted := ne_of h2 hP (fun z => nomatch z)
  have cells : ∀ H4 : Hp, (∀ p ∈ ([(0, q0), (1, q1), (2, q2)] : List (Nat × Addr)), H4 p.2 = none) → ∃ H5, H5 = upd (upd (upd H4 q0 (cellO q0 (.ref o1))) q1 (cellO q1 (.ref o2))) q2 (cellO q2 (.ref b)) ∧ KeepP A.t__law_planted H4 H5 ∧ H5 q0 = some (cellO q0 (.ref o1)) ∧ H5 q1 = some (cellO q1 (.ref o2)) ∧ H5 q2 = some (cellO q2 (.ref b)) := by
    intro H4 hq
    have a0 : H4 q0 = none := hq (0, q0) (by simp)
    have a1 : H4 q1 = none := hq (1, q1) (by simp)
    have a2 : H4 q2 = none := hq (2, q2) (by simp)
    have b1 : upd H4 q0 (cellO q0 (.ref o1)) q1 = none := by rw [upd_ne (Ne.symm n01)]; exact a1
    have b2 : upd (upd H4 q0 (cellO q0 (.ref o1))) q1 (cellO q1 (.ref o2)) q2 = none := by rw [upd_ne (Ne.symm n12), upd_ne (Ne.symm n02)]; exact a2
    refine ⟨_, rfl, (KeepP.new a0).trans ((KeepP.new b1).trans (KeepP.new b2)), ?_, ?_, upd_same⟩
    · rw [upd_ne n02, upd_ne n01, upd_same]
    · rw [upd_ne n12, upd_same]
  have key : ∀ (ps : Array Value) (c f : Addr) (H3 : Hp), f ≠ A.t__law_planted → c ≠ A.t__law_planted → H3 A.t__law_planted = some (.tbl ps) → TriplesOk ps.toList → codeAmong ⟨49, 15, 49, 90⟩ ps.toList = none → KeepP A.t__law_planted (upd H b (.dT [])) H3 → H3 f = some (cloO f ct__law_planted__c0 [q1, q0, q2] c) → H3 c = some (codeO c ct__law_planted__c0.qual) →
      R__law_planted_2 K A q0 q1 q2 { nx := fun σ H' => (∀ p ∈ ([(0, q0), (1, q1), (2, q2)] : List (Nat × Addr)), H' p.2 = none) → Q .non (trackC [(0, q0), (1, q1), (2, q2)] σ H'), rt := fun σ v H' => (∀ p ∈ ([(0, q0), (1, q1), (2, q2)] : List (Nat × Addr)), H' p.2 = none) → Q v (trackC [(0, q0), (1, q1), (2, q2)] σ H') } [some (.ref o1), some (.ref o2), some (.ref b), some (.ref f)] H3 := by
    intro ps c f H3 fP cP hP3 tr am S2 hf3 hc3
    have hb3 : H3 b = some (.dT []) := S2 _ _ upd_same bP
    have g1 : H3 o1 = some (.tup (k1.map kV)) := S2 _ _ (S1 _ _ h1 o1P) o1P
    have g2 : H3 o2 = some (.tup (k2.map kV)) := S2 _ _ (S1 _ _ h2 o2P) o2P
    refine eqT_keys g1 g2 (Sel.dec (fun e => ?_) (fun e => ?_))
    · refine ⟨_, hP3, tr, .inl ⟨am, fun c' f' hc' hf' hne' => ?_⟩⟩
      have f'P := fresh_ne hP3 hf'
      have c'P := fresh_ne hP3 hc'
      generalize ps ++ _ = ps2
      intro hq
      have c1 : upd H3 A.t__law_planted (.tbl ps2) c' = none := by rw [upd_ne c'P]; exact hc'
      have f1 : upd (upd H3 A.t__law_planted (.tbl ps2)) c' (codeO c' ct__law_planted__c1.qual) f' = none := by rw [upd_ne (Ne.symm hne'), upd_ne f'P]; exact hf'
      have T3 := KeepP.new (P := A.t__law_planted) (o := cloO f' ct__law_planted__c1 [q2] c') f1
      have T2 := (KeepP.new (P := A.t__law_planted) (o := codeO c' ct__law_planted__c1.qual) c1).trans T3
      have T1 : KeepP A.t__law_planted H3 _ := KeepP.tab.trans T2
      obtain ⟨H5, e5, S5, z0, z1, z2⟩ := cells _ hq
      show Q (.ref f') (upd (upd (upd _ q0 (cellO q0 (.ref o1))) q1 (cellO q1 (.ref o2))) q2 (cellO q2 (.ref b)))
      rw [← e5]
      exact q f' _ H5 (((S1.trans S2).trans T1).trans S5) (.p1 q2 b [] ⟨⟨c', S5 _ _ upd_same f'P, S5 _ _ (T3 _ _ upd_same c'P) c'P⟩, .cons z2 .nil⟩ (S5 _ _ (T1 _ _ hb3 bP) bP) (Nat.zero_le _) rfl)
    · intro hq
      obtain ⟨H5, e5, S5, z0, z1, z2⟩ := cells H3 hq
      show Q (.ref f) (upd (upd (upd H3 q0 (cellO q0 (.ref o1))) q1 (cellO q1 (.ref o2))) q2 (cellO q2 (.ref b)))
      rw [← e5]
      exact q f _ H5 ((S1.trans S2).trans S5) (.p0 q0 q1 q2 o1 o2 b k1 k2 [] ⟨⟨c, S5 _ _ hf3 fP, S5 _ _ hc3 cP⟩, .cons z1 (.cons z0 (.cons z2 .nil))⟩ (S5 _ _ g1 o1P) (S5 _ _ g2 o2P) w1 (S5 _ _ hb3 bP) (Nat.zero_le _) rfl)
  refine ⟨#[], hP1, trivial, .inl ⟨rfl, fun c f hc hf hne => ?_⟩⟩
  have fP := fresh_ne hP1 hf
  have cP := fresh_ne hP1 hc
  refine key (#[] ++ #[rawInt ((44 : Nat) : Int), rawInt ((4 : Nat) : Int), .ref c]) c f _ fP cP ?_ ?_ ?_ ?_ upd_same ?_
  · rw [upd_ne (Ne.symm fP), upd_ne (Ne.symm cP), upd_same]
  · trivial
  · rfl
  · have c1 : ∀ ps, upd (upd H b (.dT [])) A.t__law_planted (.tbl ps) c = none := fun ps => by rw [upd_ne cP]; exact hc
    have f1 : ∀ ps, upd (upd (upd H b (.dT [])) A.t__law_planted (.tbl ps)) c (codeO c ct__law_planted__c0.qual) f = none := fun ps => by rw [upd_ne (Ne.symm hne), upd_ne fP]; exact hf
    exact KeepP.tab.trans ((KeepP.new (c1 _)).trans (KeepP.new (f1 _)))
  · rw [upd_ne hne, upd_same]
end Rs
namespace Rs
open PySem PySem.Spec PyProof.Rows L2
theorem KeepT.rfl' {H : Hp} : KeepT H H := fun _ _ e _ => e
theorem KeepT.trans {H H1 H2 : Hp} (a : KeepT H H1) (b : KeepT H1 H2) : KeepT H H2 := fun x o e n => b x o (a x o e n) n
theorem KeepT.same {H H1 : Hp} (s : Same H H1) : KeepT H H1 := fun x o e _ => s x o e
def tabV (kvs : List (List Key × Int)) : List (List Key × V) := kvs.map fun p => (p.1, V.int p.2)
def tabG (kvs : List (List Key × Int)) (k : List Key) : Option Key := (kvs.find? fun p => decide (p.1 = k)).map fun p => Sum.inl p.2
theorem tab_val (kvs : List (List Key × Int)) (k : List Key) : valV (tabV kvs) k = (tabG kvs k).map kV := by
  unfold valV tabV tabG
  rw [List.find?_map]
  simp only [Option.map_map]
  congr 1
theorem tabG_snoc {kvs : List (List Key × Int)} {k : List Key} {v : Key} {x : List Key × Int} (h : tabG kvs k = some v) : tabG (kvs ++ [x]) k = some v := by
  unfold tabG at h ⊢
  rw [List.find?_append]
  cases e : kvs.find? fun p => decide (p.1 = k) with
  | none => rw [e] at h; cases h
  | some y => rw [e] at h; exact h
theorem tabG_new {kvs : List (List Key × Int)} {k : List Key} {d : Int} (h : tabG kvs k = none) : tabG (kvs ++ [(k, d)]) k = some (.inl d) := by
  unfold tabG at h ⊢
  rw [List.find?_append]
  cases e : kvs.find? fun p => decide (p.1 = k) with
  | none => simp
  | some y => rw [e] at h; cases h
theorem tabG_val_int {kvs : List (List Key × Int)} {k : List Key} {v : Key} (h : tabG kvs k = some v) : valV (tabV kvs) k = some (kV v) := by rw [tab_val, h]; rfl
theorem tab_step {H : Hp} {b : Addr} {cs : List Addr} {cvs : List V} {kvs : List (List Key × Int)} (kk : List Key) (d : Int) (hb : H b = some (.dT (tabV kvs))) (hc : CellsAt H cs cvs) :
    ∃ (kvs' : List (List Key × Int)) (v : Key) (H' : Hp), defV (tabV kvs) kk d = kV v ∧ backC cs H (defH (hideC cs H) b (tabV kvs) kk d) = H' ∧ H' b = some (.dT (tabV kvs')) ∧ (∀ x o, x ≠ b → H x = some o → H' x = some o) ∧ kvs'.length ≤ kvs.length + 1 ∧ tabG kvs' kk = some v ∧ ∀ k v, tabG kvs k = some v → tabG kvs' k = some v := by
  have hbc : b ∉ cs := hc.notin hb fun _ z => nomatch z
  cases e : tabG kvs kk with
  | some v =>
    have ev := tabG_val_int e
    refine ⟨kvs, v, H, by unfold defV; rw [ev]; rfl, ?_, hb, fun _ _ _ h => h, Nat.le_succ _, e, fun _ _ h => h⟩
    unfold defH; rw [ev]; exact backC_hide cs H
  | none =>
    have ev : valV (tabV kvs) kk = none := by rw [tab_val, e]; rfl
    refine ⟨kvs ++ [(kk, d)], .inl d, upd H b (.dT (tabV (kvs ++ [(kk, d)]))), by unfold defV; rw [ev]; rfl, ?_, upd_same, fun x o n h => by rw [upd_ne n]; exact h, by simp, tabG_new e, fun _ _ h => tabG_snoc h⟩
    unfold defH; rw [ev, if_neg (by decide), backC_upd hbc, backC_hide, putK_new _ ev]
    unfold tabV; rw [List.map_append]; rfl
variable {K : PySem.W.Frag} {mg : Str → Option Value} {A : Adr}
theorem Stp.clo {H : Hp} {f : Addr} {g : List Key → Option Key} {n : Nat} (s : Stp K A H f g n) : ∃ ts ∈ Knd1 K A, ∃ cs cvs, CloAt H f ts.1 cs cvs := by
  cases s with
  | w0 q m _ _ hc _ => exact ⟨_, List.mem_cons_self, _, _, hc⟩
  | w1 q m _ _ hc _ => exact ⟨_, List.mem_cons_of_mem _ List.mem_cons_self, _, _, hc⟩
  | w2 q m _ _ hc _ => exact ⟨_, List.mem_cons_of_mem _ (List.mem_cons_of_mem _ List.mem_cons_self), _, _, hc⟩
  | p0 _ _ _ _ _ _ _ _ _ hc => exact ⟨_, List.mem_cons_of_mem _ (List.mem_cons_of_mem _ (List.mem_cons_of_mem _ List.mem_cons_self)), _, _, hc⟩
  | p1 _ _ _ hc => exact ⟨_, List.mem_cons_of_mem _ (List.mem_cons_of_mem _ (List.mem_cons_of_mem _ (List.mem_cons_of_mem _ List.mem_cons_self))), _, _, hc⟩
theorem Stp.keepL {H H' : Hp} {f : Addr} {g : List Key → Option Key} {n m : Nat} (s : Stp K A H f g n) (hn : n ≤ m) (k : ∀ b o, H b = some o → (∀ xs, o ≠ .lst xs) → (∀ kvs, o ≠ .dK kvs) → H' b = some o) : Stp K A H' f g m := by
  have kx : ∀ b φ, H b = some (.ext φ) → H' b = some (.ext φ) := fun b φ e => k b _ e (fun _ z => nomatch z) (fun _ z => nomatch z)
  have kt : ∀ b xs, H b = some (.tup xs) → H' b = some (.tup xs) := fun b φ e => k b _ e (fun _ z => nomatch z) (fun _ z => nomatch z)
  have kd : ∀ b xs, H b = some (.dT xs) → H' b = some (.dT xs) := fun b φ e => k b _ e (fun _ z => nomatch z) (fun _ z => nomatch z)
  cases s with
  | w0 q m h1 h2 hc hg => exact .w0 q m h1 h2 (hc.keep kx) hg
  | w1 q m h1 h2 hc hg => exact .w1 q m h1 h2 (hc.keep kx) hg
  | w2 q m h1 h2 hc hg => exact .w2 q m h1 h2 (hc.keep kx) hg
  | p0 q0 q1 q2 o1 o2 b k1 k2 kvs hc e1 e2 w1 hb hl hg => exact .p0 q0 q1 q2 o1 o2 b k1 k2 kvs (hc.keep kx) (kt _ _ e1) (kt _ _ e2) w1 (kd _ _ hb) (Nat.le_trans hl hn) hg
  | p1 q2 b kvs hc hb hl hg => exact .p1 q2 b kvs (hc.keep kx) (kd _ _ hb) (Nat.le_trans hl hn) hg
theorem call_ok {H : Hp} {f p : Addr} {g : List Key → Option Key} {n : Nat} {k : List Key} {R : VK} (s : Stp K A H f g n) (hn : n ≤ 900) (hp : H p = some (.tup (k.map kV))) (ok : okT k = true)
    (q : ∀ (v : Key) (H' : Hp) (g' : List Key → Option Key), KeepT H H' → Stp K A H' f g' (n + 1) → Sub g g' → g' k = some v → R (kV v) H') : HCall (Knd1 K A) f [.ref p] H R E0 := by
  have s0 := s
  cases s with
  | w0 c m h1 h2 hc hg =>
    refine ⟨_, List.mem_cons_self, _, _, hc, rfl, p, m, k, rfl, h1, h2, hc.cells.hide hp (fun _ z => nomatch z), ok, ?_⟩
    dsimp only
    rw [backC_hide]
    exact q _ H g KeepT.rfl' (s0.keepL (Nat.le_succ _) fun _ _ e _ _ => e) (fun _ _ e => e) (by rw [hg])
  | w1 c m h1 h2 hc hg =>
    refine ⟨_, List.mem_cons_of_mem _ List.mem_cons_self, _, _, hc, rfl, p, m, k, rfl, h1, h2, hc.cells.hide hp (fun _ z => nomatch z), ok, ?_⟩
    dsimp only
    rw [backC_hide]
    exact q _ H g KeepT.rfl' (s0.keepL (Nat.le_succ _) fun _ _ e _ _ => e) (fun _ _ e => e) (by rw [hg])
  | w2 c m h1 h2 hc hg =>
    refine ⟨_, List.mem_cons_of_mem _ (List.mem_cons_of_mem _ List.mem_cons_self), _, _, hc, rfl, p, m, k, rfl, h1, h2, hc.cells.hide hp (fun _ z => nomatch z), ok, fun H' S => ?_⟩
    have S := Same.hide _ S
    exact q _ _ g (KeepT.same S) (s0.keepL (Nat.le_succ _) fun _ _ e _ _ => S _ _ e) (fun _ _ e => e) (by rw [hg])
  | p0 q0 q1 q2 o1 o2 b k1 k2 kvs hc e1 e2 w1 hb hl hg =>
    have hb : H b = some (.dT (tabV kvs)) := hb
    have ll : (tabV kvs).length = kvs.length := by simp [tabV]
    obtain ⟨kvs', v, H', ev, eH, hb', keep, hl', gv, sub⟩ := tab_step (if k = k1 then k2 else k) (3 * ((tabV kvs).length : Int) + 5) hb hc.cells
    refine ⟨_, List.mem_cons_of_mem _ (List.mem_cons_of_mem _ (List.mem_cons_of_mem _ List.mem_cons_self)), _, _, hc, rfl, p, o2, o1, b, k, k1, k2, _, rfl, hc.cells.hide hp (fun _ z => nomatch z), hc.cells.hide e1 (fun _ z => nomatch z), hc.cells.hide e2 (fun _ z => nomatch z), ok, w1, hc.cells.hide hb (fun _ z => nomatch z), by omega, ?_⟩
    dsimp only
    rw [ev, eH]
    refine q v H' (fun k => tabG kvs' (if k = k1 then k2 else k)) (fun x o e nd => keep x o (fun z => by subst z; rw [hb] at e; cases e; exact nd _ rfl) e)
      (.p0 q0 q1 q2 o1 o2 b k1 k2 kvs' (hc.keep fun x φ e => keep x _ (ne_of e hb (fun z => nomatch z)) e) (keep _ _ (ne_of e1 hb (fun z => nomatch z)) e1) (keep _ _ (ne_of e2 hb (fun z => nomatch z)) e2) w1 hb' (by omega) rfl) ?_ gv
    rw [hg]
    exact fun x y e => sub _ _ e
  | p1 q2 b kvs hc hb hl hg =>
    have hb : H b = some (.dT (tabV kvs)) := hb
    have ll : (tabV kvs).length = kvs.length := by simp [tabV]
    obtain ⟨kvs', v, H', ev, eH, hb', keep, hl', gv, sub⟩ := tab_step k ((tabV kvs).length : Int) hb hc.cells
    refine ⟨_, List.mem_cons_of_mem _ (List.mem_cons_of_mem _ (List.mem_cons_of_mem _ (List.mem_cons_of_mem _ List.mem_cons_self))), _, _, hc, rfl, p, b, k, _, rfl, hc.cells.hide hp (fun _ z => nomatch z), hc.cells.hide hb (fun _ z => nomatch z), by omega, ?_⟩
    dsimp only
    rw [ev, eH]
    refine q v H' (tabG kvs') (fun x o e nd => keep x o (fun z => by subst z; rw [hb] at e; cases e; exact nd _ rfl) e)
      (.p1 q2 b kvs' (hc.keep fun x φ e => keep x _ (ne_of e hb (fun z => nomatch z)) e) hb' (by omega) rfl) ?_ gv
    rw [hg]
    exact fun x y e => sub _ _ e
theorem IsDue.one {h : List Key → Key} {ks : List (List Key)} : ∀ {r s : Option (List Key × List Key)}, IsDue h ks r → IsDue h ks s → r = s
  | none, none, _, _ => rfl
  | none, some s, a, b => by
    obtain ⟨j, k, hjk, h1, h2, h3, h4, _⟩ := b
    exact (h3 (a j k _ _ hjk h1 h2 h4)).elim
  | some s, none, b, a => by
    obtain ⟨j, k, hjk, h1, h2, h3, h4, _⟩ := b
    exact (h3 (a j k _ _ hjk h1 h2 h4)).elim
  | some (r1, r2), some (s1, s2), a, b => by
    obtain ⟨j, k, hjk, h1, h2, h3, h4, h5, h6⟩ := a
    obtain ⟨j', k', hjk', g1, g2, g3, g4, g5, g6⟩ := b
    dsimp only at *
    have hk : k = k' := by
      rcases Nat.lt_trichotomy k k' with l | l | l
      · exact (h3 (g5 j k _ _ hjk l h1 h2 h4)).elim
      · exact l
      · exact (g3 (h5 j' k' _ _ hjk' l g1 g2 g4)).elim
    subst hk
    rw [h2] at g2; cases g2
    have hj : j = j' := by
      rcases Nat.lt_trichotomy j j' with l | l | l
      · exact (h3 (g6 j _ l h1 h4)).elim
      · exact l
      · exact (g3 (h6 j' _ l g1 g4)).elim
    subst hj
    rw [h1] at g1; cases g1
    rfl
theorem str_ascii {z : Str} (h : z.cps.all (· < 128) = true) : PyData.strOk z = true := by
  unfold PyData.strOk
  rw [Array.all_eq_true] at h ⊢
  intro i hi
  have := of_decide_eq_true (h i hi)
  exact decide_eq_true (by omega)
theorem okT_str {k : List Key} (h : okT k = true) : k.all keyStr = true := by
  rw [List.all_eq_true]
  intro x hx
  have := okT_mem h hx
  cases x with
  | inl i => rfl
  | inr z => exact str_ascii (Bool.and_eq_true_iff.mp this).1
end Rs
namespace Rs
open PySem PySem.Spec PyProof.Rows L2
theorem pk_len {H : Hp} {ps : List Addr} {ks : List (List Key)} (h : PK H ps ks) : ps.length = ks.length := by
  induction h with
  | nil => rfl
  | cons _ _ ih => rw [List.length_cons, List.length_cons, ih]
theorem pk_get {H : Hp} {ps : List Addr} {ks : List (List Key)} (h : PK H ps ks) : ∀ {i : Nat} {p : Addr}, ps[i]? = some p → ∃ k, ks[i]? = some k ∧ H p = some (.tup (k.map kV)) ∧ okT k = true := by
  induction h with
  | nil => intro i p e; cases e
  | @cons p k ps ks r t ih =>
    intro i p e
    cases i with
    | zero => cases e; exact ⟨k, rfl, r⟩
    | succ i => exact ih e
variable {K : PySem.W.Frag} {mg : Str → Option Value} {A : Adr}
theorem len__law_alike (K : PySem.W.Frag) (A : Adr) : ∀ vs H Q E, sp__law_alike K A vs H Q E → vs.length = 2 := by rintro vs H Q E ⟨u, v, r, rfl, _⟩; rfl
theorem rd__law_alike (T : Txt K mg A) (vs : List V) (H : Hp) (Q : VK) (E : XK) (h : sp__law_alike K A vs H Q E) : T__law_alike K A { nx := fun _ H' => Q .non H', rt := Q } (start ["_law_found", "_law_due_here"] vs) H := by
  obtain ⟨u, v, r, rfl, hu, hv, q⟩ := h
  cases r with
  | none =>
    have hu : u = .non := hu
    have hv : v = .non := hv
    subst hu hv
    exact Sel.yes rfl q
  | some r =>
    obtain ⟨p, a, b, rfl, hp, ha, hb, oa, ob⟩ := hu
    obtain ⟨p', a', b', rfl, hp', ha', hb', _, _⟩ := hv
    have ty : ∀ (x : Addr) (xs : List V), H x = some (.tup xs) → tyN H (.ref x) = some "tuple" := fun x xs e => by unfold tyN; dsimp only; rw [e]
    refine Sel.no rfl ⟨by decide, "tuple", ty _ _ hp, Sel.no rfl (.inl (.inr (.inl ⟨_, SqT.of hp, Sel.no rfl ?_⟩)))⟩
    refine .inl (.inr (.inl ⟨p, _, 0, _, rfl, rfl, SqT.of hp, rfl, by decide, "tuple", ty _ _ ha, Sel.yes rfl ?_⟩))
    refine .inl (.inr (.inl ⟨p, _, 1, _, rfl, rfl, SqT.of hp, rfl, by decide, "tuple", ty _ _ hb, Sel.yes rfl ?_⟩))
    have d : DatV K H (.ref p) (.tuple [.tuple (r.1.map dKey), .tuple (r.2.map dKey)]) := .tup (SqT.of hp) (.cons (datV_tup ha) (.cons (datV_tup hb) .nil))
    have d' : DatV K H (.ref p') (.tuple [.tuple (r.1.map dKey), .tuple (r.2.map dKey)]) := .tup (SqT.of hp') (.cons (datV_tup ha') (.cons (datV_tup hb') .nil))
    have cl : (PyData.tuple [.tuple (r.1.map dKey), .tuple (r.2.map dKey)]).canLay0 = true := by
      show (PyData.canLayAll0 (r.1.map dKey) && (PyData.canLayAll0 (r.2.map dKey) && true)) = true
      rw [canLay_keys (okT_str oa), canLay_keys (okT_str ob)]; rfl
    refine .inr ⟨_, _, d, d', cl, cl, ?_, ?_⟩
    · show max (PyData.depthAll (r.1.map dKey) + 1) (max (PyData.depthAll (r.2.map dKey) + 1) 0) + 1 ≤ 150
      rw [depth_keys, depth_keys]; decide
    · have e : (PyData.tuple [.tuple (r.1.map dKey), .tuple (r.2.map dKey)]).eqv (.tuple [.tuple (r.1.map dKey), .tuple (r.2.map dKey)]) = true := by
        show (PyData.eqvAll (r.1.map dKey) (r.1.map dKey) && (PyData.eqvAll (r.2.map dKey) (r.2.map dKey) && true)) = true
        rw [eqvAll_keys, eqvAll_keys, decide_eq_true rfl, decide_eq_true rfl]; rfl
      rw [e]; exact q
theorem len__law_due (K : PySem.W.Frag) (A : Adr) : ∀ vs H Q E, sp__law_due K A vs H Q E → vs.length = 2 := by rintro vs H Q E ⟨f, L, ps, ks, g, n, rfl, _⟩; rfl
theorem rd__law_due (T : Txt K mg A) (vs : List V) (H : Hp) (Q : VK) (E : XK) (h : sp__law_due K A vs H Q E) : T__law_due K A { nx := fun _ H' => Q .non H', rt := Q } (start ["_law_stamper", "_law_terms", "_law_stamps", "_law_k", "_law_j"] vs) H := by
  obtain ⟨f, L, ps, ks, g, n, rfl, s, hL, pk, hn, q⟩ := h
  have pl := pk_len pk
  refine ⟨L, rfl, .inl ⟨⟨_, SqL.of hL⟩, fun D hD => ?_⟩⟩
  refine comp_by (Items.list (xs := ps.map V.ref) .non) (fun i ys H' => KeepT H H' ∧ H' D = some (.lst ys) ∧ ∃ (g' : List Key → Option Key) (sv : List Key), Stp K A H' f g' (n + i) ∧ Sub g g' ∧ ys = sv.map kV ∧ sv.length = i ∧ ∀ j a, j < i → ks[j]? = some a → ∃ v, sv[j]? = some v ∧ g' a = some v) ?_ ?_ ?_ ?_
  · rintro i ys H' hi ⟨k, _⟩; exact SqL.of (k _ _ hL (fun _ z => nomatch z))
  · exact ⟨KeepT.same (Same.upd hD), upd_same, g, [], s.keepL (Nat.le_refl _) (fun b o e _ _ => Same.upd hD _ _ e), fun _ _ e => e, rfl, rfl, fun j a hj => by omega⟩
  · rintro i ys H2 hi ⟨kp, hys, g', sv, s', sub, rfl, hl, hv⟩
    rw [if_pos rfl]
    have hi' : i < ps.length := by simpa using hi
    have hx : (ps.map V.ref).getD i .non = .ref (ps[i]) := by simp [List.getD_eq_getElem?_getD, hi']
    rw [hx]
    obtain ⟨k, hk, hp, ok⟩ := pk_get pk (List.getElem?_eq_getElem hi')
    refine ⟨f, rfl, s'.clo, ?_⟩
    refine tc1 rfl ?_
    refine call_ok s' (by omega) (kp _ _ hp (fun _ z => nomatch z)) ok fun v H3 g3 k3 s3 sub3 gv => ?_
    have hD3 := k3 _ _ hys (fun _ z => nomatch z)
    refine ⟨hD3, Nat.lt_of_lt_of_le (by rw [List.length_map, hl]; exact Nat.lt_succ_self i) (line_ge (by omega)), CWd.next hi ⟨?_, upd_same, g3, sv ++ [v], ?_, fun a b e => sub3 a b (sub a b e), by rw [List.map_append]; rfl, by rw [List.length_append, hl]; rfl, ?_⟩⟩
    · intro b o e nd
      rw [upd_ne (ne_of_none e hD)]
      exact k3 _ _ (kp _ _ e nd) nd
    · exact s3.keepL (Nat.le_refl _) fun b o e nl _ => by rw [upd_ne (fun z => by subst z; rw [hD3] at e; cases e; exact nl _ rfl)]; exact e
    · intro j a hj ha
      by_cases e : j = i
      · subst e
        rw [hk] at ha; cases ha
        exact ⟨v, by rw [← hl]; simp, gv⟩
      · obtain ⟨w, h1, h2⟩ := hv j a (by omega) ha
        exact ⟨w, by rw [List.getElem?_append_left (by omega)]; exact h1, sub3 _ _ h2⟩
  · rintro ys H1 ⟨kp, hD1, g1, sv, s1, sub, rfl, hl, hv⟩
    have hl : sv.length = ks.length := by rw [hl, List.length_map, pl]
    have s1 : Stp K A H1 f g1 (n + ks.length) := by rw [List.length_map, pl] at s1; exact s1
    have hv : ∀ j a, ks[j]? = some a → ∃ v, sv[j]? = some v ∧ g1 a = some v := fun j a e => hv j a (by rw [List.length_map, pl]; exact (List.getElem?_eq_some_iff.mp e).1) e
    have hL1 : H1 L = some (.lst (ps.map V.ref)) := kp _ _ hL (fun _ z => nomatch z)
    have all : ∀ k ∈ ks, ∃ x, g1 k = some x := fun k hk => by
      obtain ⟨j, hj⟩ := List.mem_iff_getElem?.mp hk
      obtain ⟨v, _, h⟩ := hv j k hj
      exact ⟨v, h⟩
    have same : ∀ (h : List Key → Key), (∀ k x, g1 k = some x → h k = x) → ∀ j k a b, ks[j]? = some a → ks[k]? = some b → (h a = h b ↔ sv[j]? = sv[k]?) := fun h hh j k a b e1 e2 => by
      obtain ⟨v, v1, v2⟩ := hv j a e1
      obtain ⟨w, w1, w2⟩ := hv k b e2
      rw [hh _ _ v2, hh _ _ w2, v1, w1]
      exact ⟨fun e => by rw [e], fun e => by cases e; rfl⟩
    refine .inl (.inl ⟨_, SqL.of hL1, _, rfl, by omega, by rw [List.length_map, pl]; omega, ?_⟩)
    have en : (((ps.map V.ref).length : Nat) : Int).toNat = ks.length := by rw [List.length_map, pl]; rfl
    rw [en]
    refine for_range (fun i σ H' => H' = H1 ∧ (∃ x3 x4, σ = [some (.ref f), some (.ref L), some (.ref D), x3, x4]) ∧ ∀ j k a b, j < k → k < i → ks[j]? = some a → ks[k]? = some b → sv[j]? = sv[k]? → a = b) ⟨rfl, ⟨none, none, rfl⟩, fun j k a b _ h => by omega⟩ ?_ ?_
    · rintro i σ _ hi ⟨rfl, ⟨x3, x4, rfl⟩, no⟩
      obtain ⟨b, hb⟩ : ∃ b, ks[i]? = some b := ⟨_, List.getElem?_eq_getElem hi⟩
      obtain ⟨pi, hpi⟩ : ∃ p, ps[i]? = some p := ⟨_, List.getElem?_eq_getElem (by omega)⟩
      obtain ⟨b', hb', hpb, okb⟩ := pk_get pk hpi
      rw [hb] at hb'; cases hb'
      have hpb := kp _ _ hpb (fun _ z => nomatch z)
      obtain ⟨vi, hvi, gi⟩ := hv i b hb
      refine ⟨_, rfl, by omega, by omega, ?_⟩
      have ei : ((0 : Int) + (i : Int)).toNat = i := by omega
      rw [ei]
      refine for_range (fun j σ H' => H' = _ ∧ (∃ x4, σ = [some (.ref f), some (.ref L), some (.ref D), some (.int (0 + i)), x4]) ∧ ∀ j' a, j' < j → ks[j']? = some a → sv[j']? = sv[i]? → a = b) ⟨rfl, ⟨x4, rfl⟩, fun j' a h => by omega⟩ ?_ ?_
      · rintro j σ _ hj ⟨rfl, ⟨y4, rfl⟩, noj⟩
        obtain ⟨a, ha⟩ : ∃ a, ks[j]? = some a := ⟨_, List.getElem?_eq_getElem (by omega)⟩
        obtain ⟨pj, hpj⟩ : ∃ p, ps[j]? = some p := ⟨_, List.getElem?_eq_getElem (by omega)⟩
        obtain ⟨a', ha', hpa, oka⟩ := pk_get pk hpj
        rw [ha] at ha'; cases ha'
        have hpa := kp _ _ hpa (fun _ z => nomatch z)
        obtain ⟨vj, hvj, gj⟩ := hv j a ha
        have i1 : (ps.map V.ref)[j]? = some (.ref pj) := by rw [List.getElem?_map, hpj]; rfl
        have i2 : (ps.map V.ref)[i]? = some (.ref pi) := by rw [List.getElem?_map, hpi]; rfl
        have next : (a = b ∨ ¬ vj = vi) → (∃ x4, [some (V.ref f), some (V.ref L), some (V.ref D), some (V.int (0 + i)), some (V.int (0 + j))] = [some (V.ref f), some (V.ref L), some (V.ref D), some (V.int (0 + i)), x4]) ∧ ∀ j' a, j' < j + 1 → ks[j']? = some a → sv[j']? = sv[i]? → a = b := fun hor => ⟨⟨_, rfl⟩, fun j' a' hj' h1 h2 => by
          by_cases e : j' = j
          · subst e
            rw [ha] at h1; cases h1
            rcases hor with e | e
            · exact e
            · rw [hvj, hvi] at h2; cases h2; exact (e rfl).elim
          · exact noj j' a' (by omega) h1 h2⟩
        refine ixL hL1 (by omega) i1 (ixL hL1 (by omega) i2 (neT_keys hpa hpb (okT_str oka) (okT_str okb) (Sel.ndec (fun ne => ?_) (fun e => ?_))))
        · refine ixL (j := j) hD1 (by omega) (by rw [List.getElem?_map, hvj]; rfl) (ixL (j := i) hD1 (by omega) (by rw [List.getElem?_map, hvi]; rfl) (eq_keys (Sel.dec (fun e => ?_) (fun e => ?_))))
          · refine ixL hL1 (by omega) i1 (ixL hL1 (by omega) i2 ⟨line_ge (n := 2) (by decide), fun p hp => ?_⟩)
            have S := Same.upd (o := .tup [V.ref pj, V.ref pi]) hp
            refine q _ _ g1 (some (a, b)) (kp.trans (KeepT.same S)) (s1.keepL (Nat.le_refl _) fun _ _ e _ _ => S _ _ e) sub ⟨p, pj, pi, rfl, upd_same, S _ _ hpa, S _ _ hpb, oka, okb⟩ (fun h hh => ?_) all
            refine ⟨j, i, hj, ha, hb, ne, ?_, ?_, ?_⟩
            · exact (same h hh j i a b ha hb).mpr (by rw [hvj, hvi, e])
            · exact fun j' k' a' b' h1 h2 h3 h4 h5 => no j' k' a' b' h1 h2 h3 h4 ((same h hh j' k' a' b' h3 h4).mp h5)
            · exact fun j' a' h1 h2 h3 => noj j' a' h1 h2 ((same h hh j' i a' b h2 hb).mp h3)
          · exact ⟨rfl, next (.inr e)⟩
        · exact Sel.f ⟨rfl, next (.inl e)⟩
      · rintro σ _ ⟨rfl, ⟨y4, rfl⟩, noj⟩
        refine ⟨rfl, ⟨_, _, rfl⟩, fun j k a b' h1 h2 h3 h4 h5 => ?_⟩
        by_cases e : k = i
        · subst e
          rw [hb] at h4; cases h4
          exact noj j a h1 h3 h5
        · exact no j k a b' h1 (by omega) h3 h4 h5
    · rintro σ _ ⟨rfl, ⟨x3, x4, rfl⟩, no⟩
      refine q _ _ g1 none kp s1 sub rfl (fun h hh => ?_) all
      exact fun j k a b h1 h2 h3 h4 => no j k a b h1 ((List.getElem?_eq_some_iff.mp h3).1) h2 h3 ((same h hh j k a b h2 h3).mp h4)
end Rs
namespace Rs
open PySem PySem.Spec PyProof.Rows L2
theorem first_ix {α : Type} {ks : List α} {a : α} : ∀ (j : Nat), ks[j]? = some a → ∃ j0, j0 ≤ j ∧ ks[j0]? = some a ∧ ∀ j', j' < j0 → ks[j']? ≠ some a := by
  intro j
  induction j using Nat.strongRecOn with
  | ind j ih =>
    intro h
    by_cases e : ∃ j', j' < j ∧ ks[j']? = some a
    · obtain ⟨j', h1, h2⟩ := e
      obtain ⟨j0, h3, h4, h5⟩ := ih j' h1 h2
      exact ⟨j0, by omega, h4, h5⟩
    · exact ⟨j, Nat.le_refl _, h, fun j' h1 h2 => e ⟨j', h1, h2⟩⟩
variable {K : PySem.W.Frag} {mg : Str → Option Value} {A : Adr}
theorem len_clash (K : PySem.W.Frag) (A : Adr) : ∀ vs H Q E, sp_clash K A vs H Q E → vs.length = 2 := by rintro vs H Q E ⟨f, L, ps, ks, g, n, rfl, _⟩; rfl
theorem rd_clash (T : Txt K mg A) (vs : List V) (H : Hp) (Q : VK) (E : XK) (h : sp_clash K A vs H Q E) : T_clash K A { nx := fun _ H' => Q .non H', rt := Q } (start ["stamper", "terms", "firsts", "term", "ahead"] vs) H := by
  obtain ⟨f, L, ps, ks, g, n, rfl, s, hL, pk, hn, q⟩ := h
  have pl := pk_len pk
  refine .inl fun d hd => ?_
  have S0 := Same.upd (o := .dK []) hd
  refine ⟨L, rfl, .inl ⟨⟨_, SqL.of (S0 _ _ hL)⟩, ?_⟩⟩
  have noc : ∀ (i : Nat) (H' : Hp) (g' : List Key → Option Key) (kvs : List (Key × V)), (∀ j a, j < i → ks[j]? = some a → ∃ v p, g' a = some v ∧ valV kvs v = some (.ref p) ∧ H' p = some (.tup (a.map kV))) → ∀ (h : List Key → Key), (∀ k x, g' k = some x → h k = x) → ∀ (j k : Nat) a b, j < k → k < i → ks[j]? = some a → ks[k]? = some b → h a = h b → a = b := by
    intro i H' g' kvs I1 h hh j k a b h1 h2 h3 h4 h5
    obtain ⟨v, p, e1, e2, e3⟩ := I1 j a (by omega) h3
    obtain ⟨v', p', e1', e2', e3'⟩ := I1 k b h2 h4
    have : v = v' := by rw [hh _ _ e1, hh _ _ e1'] at h5; exact h5
    subst this
    rw [e2] at e2'; cases e2'
    rw [e3] at e3'
    injection e3' with e; injection e with e
    exact kVs_inj e
  refine for_list (xs := ps.map V.ref) (fun i σ H' => ∃ x3 x4 g' kvs, σ = [some (.ref f), some (.ref L), some (.ref d), x3, x4] ∧ KeepT H H' ∧ Stp K A H' f g' (n + i) ∧ Sub g g' ∧ H' d = some (.dK kvs) ∧ kvs.length ≤ i ∧
      (∀ j a, j < i → ks[j]? = some a → ∃ v p, g' a = some v ∧ valV kvs v = some (.ref p) ∧ H' p = some (.tup (a.map kV))) ∧
      ∀ v x, valV kvs v = some x → ∃ j a p, j < i ∧ ks[j]? = some a ∧ x = .ref p ∧ H' p = some (.tup (a.map kV)) ∧ okT a = true ∧ g' a = some v)
    ⟨none, none, g, [], rfl, KeepT.same S0, s.keepL (Nat.le_refl _) (fun _ _ e _ _ => S0 _ _ e), fun _ _ e => e, upd_same, Nat.le_refl _, fun j a hj => by omega, fun v x e => by cases e⟩ ?_ ?_ ?_
  · rintro i σ H' _ ⟨x3, x4, g', kvs, rfl, kp, _⟩; exact SqL.of (kp _ _ hL (fun _ z => nomatch z))
  · rintro i x σ H' hx ⟨x3, x4, g', kvs, rfl, kp, s', sub, hd', hl, I1, I2⟩
    obtain ⟨p, hp, rfl⟩ := map_get hx
    obtain ⟨k, hk, hpk, ok⟩ := pk_get pk hp
    have hi : i < ks.length := (List.getElem?_eq_some_iff.mp hk).1
    refine ⟨.inr (.inr (.inl ⟨rfl, .inl ⟨_, hd'⟩⟩)), f, rfl, s'.clo, tc1 rfl (call_ok s' (by omega) (kp _ _ hpk (fun _ z => nomatch z)) ok fun v H3 g3 k3 s3 sub3 gv => tc1 rfl ?_)⟩
    have hp3 : H3 p = some (.tup (k.map kV)) := k3 _ _ (kp _ _ hpk (fun _ z => nomatch z)) (fun _ z => nomatch z)
    have hd3 := k3 _ _ hd' (fun _ z => nomatch z)
    have J1 : ∀ j a, j < i → ks[j]? = some a → ∃ v p, g3 a = some v ∧ valV kvs v = some (.ref p) ∧ H3 p = some (.tup (a.map kV)) := fun j a hj e => by
      obtain ⟨v, p, e1, e2, e3⟩ := I1 j a hj e
      exact ⟨v, p, sub3 _ _ e1, e2, k3 _ _ e3 (fun _ z => nomatch z)⟩
    have J2 : ∀ v x, valV kvs v = some x → ∃ j a p, j < i ∧ ks[j]? = some a ∧ x = .ref p ∧ H3 p = some (.tup (a.map kV)) ∧ okT a = true ∧ g3 a = some v := fun v x e => by
      obtain ⟨j, a, p, e1, e2, e3, e4, e5, e6⟩ := I2 v x e
      exact ⟨j, a, p, e1, e2, e3, k3 _ _ e4 (fun _ z => nomatch z), e5, sub3 _ _ e6⟩
    have kp3 := kp.trans k3
    have sub' : Sub g g3 := fun a b e => sub3 a b (sub a b e)
    have gd := DGet.k (k := v) hd3
    cases ev : valV kvs v with
    | some x =>
      rw [ev] at gd
      obtain ⟨j0, a0, p0, hj0, ha0, rfl, hp0, ok0, g0⟩ := J2 v x ev
      refine ⟨d, kV v, .ref p, .ref p0, H3, rfl, rfl, .inl ⟨gd, rfl⟩, ?_⟩
      refine ⟨_, _, datV_tup hp0, datV_tup hp3, canLay_keys (okT_str ok0), canLay_keys (okT_str ok), depT _, Sel.mk (fun t => ?_) (fun t => ?_)⟩
      · have ne := neqv_t t
        refine ⟨line_ge (n := 2) (by decide), fun r hr => ?_⟩
        have S := Same.upd (o := .tup [V.ref p0, V.ref p]) hr
        refine q _ _ g3 (some (a0, k)) (kp3.trans (KeepT.same S)) (s3.keepL (by omega) fun _ _ e _ _ => S _ _ e) sub' ⟨r, p0, p, rfl, upd_same, S _ _ hp0, S _ _ hp3, ok0, ok⟩ (fun h hh => ?_)
        obtain ⟨j1, hj1, hb1, hmin⟩ := first_ix j0 ha0
        refine ⟨j1, i, by omega, hb1, hk, ne, by rw [hh _ _ g0, hh _ _ gv], noc i H3 g3 kvs J1 h hh, fun j' a hj' ha he => ?_⟩
        obtain ⟨v1, p1, e1, e2, e3⟩ := J1 j' a (by omega) ha
        have : v1 = v := by rw [hh _ _ e1, hh _ _ gv] at he; exact he
        subst this
        rw [ev] at e2; cases e2
        rw [hp0] at e3
        injection e3 with e; injection e with e
        have := kVs_inj e
        subst this
        exact (hmin j' hj' ha).elim
      · have e := neqv_f t
        subst e
        refine ⟨_, _, g3, kvs, rfl, kp3, s3, sub', hd3, by omega, fun j a hj ha => ?_, fun w x e => ?_⟩
        · by_cases e : j = i
          · subst e; rw [hk] at ha; cases ha
            exact ⟨v, p0, gv, ev, hp0⟩
          · exact J1 j a (by omega) ha
        · obtain ⟨j, a, r, e1, e2⟩ := J2 w x e
          exact ⟨j, a, r, by omega, e2⟩
    | none =>
      rw [ev] at gd
      refine ⟨d, kV v, .ref p, .ref p, upd H3 d (.dK (putK kvs v (.ref p))), rfl, rfl, .inr ⟨gd, DPut.k hd3 (Nat.lt_of_le_of_lt hl (line_ge (n := i + 1) (by omega))), rfl⟩, ?_⟩
      have dn : ∀ b o, H3 b = some o → (∀ kvs, o ≠ .dK kvs) → upd H3 d (.dK (putK kvs v (.ref p))) b = some o := fun b o e nd => by rw [upd_ne (fun z => by subst z; rw [hd3] at e; cases e; exact nd _ rfl)]; exact e
      have hp4 := dn _ _ hp3 (fun _ z => nomatch z)
      refine ⟨_, _, datV_tup hp4, datV_tup hp4, canLay_keys (okT_str ok), canLay_keys (okT_str ok), depT _, Sel.mk (fun t => (neqv_t t rfl).elim) (fun t => ?_)⟩
      refine ⟨_, _, g3, putK kvs v (.ref p), rfl, ?_, s3.keepL (Nat.le_refl _) (fun b o e _ nd => dn b o e nd), sub', upd_same, Nat.le_trans (length_putK _ _ _) (by omega), fun j a hj ha => ?_, fun w x e => ?_⟩
      · intro b o e nd
        rw [upd_ne (ne_of_none e hd)]
        exact kp3 _ _ e nd
      · by_cases e : j = i
        · subst e; rw [hk] at ha; cases ha
          exact ⟨v, p, gv, by rw [valV_put, if_pos rfl], hp4⟩
        · obtain ⟨w, r, e1, e2, e3⟩ := J1 j a (by omega) ha
          exact ⟨w, r, e1, by rw [valV_put, if_neg (fun z => by subst z; rw [ev] at e2; cases e2)]; exact e2, dn _ _ e3 (fun _ z => nomatch z)⟩
      · rw [valV_put] at e
        by_cases ew : w = v
        · subst ew
          rw [if_pos rfl] at e; cases e
          exact ⟨i, k, p, by omega, hk, rfl, hp4, ok, gv⟩
        · rw [if_neg ew] at e
          obtain ⟨j, a, r, e1, e2, e3, e4, e5⟩ := J2 w x e
          exact ⟨j, a, r, by omega, e2, e3, dn _ _ e4 (fun _ z => nomatch z), e5⟩
  · rintro σ H' ⟨x3, x4, g', kvs, rfl, kp, s', sub, hd', hl, I1, I2⟩
    have el : (ps.map V.ref).length = ks.length := by rw [List.length_map, pl]
    rw [el] at s' I1
    refine q _ _ g' none kp s' sub rfl fun h hh => ?_
    exact fun j k a b h1 h2 h3 h4 => noc ks.length H' g' kvs I1 h hh j k a b h1 (List.getElem?_eq_some_iff.mp h3).1 h2 h3 h4
end Rs
namespace Rs
open PySem PySem.Spec PyProof.Rows L2
theorem pk_keep {H H' : Hp} {ps : List Addr} {ks : List (List Key)} (k : ∀ b xs, H b = some (.tup xs) → H' b = some (.tup xs)) (h : PK H ps ks) : PK H' ps ks := L2.Paired.imp' (fun p x e => ⟨k _ _ e.1, e.2⟩) h
theorem pk_snoc {H : Hp} {ps : List Addr} {ks : List (List Key)} {p : Addr} {k : List Key} (h : PK H ps ks) (e : H p = some (.tup (k.map kV)) ∧ okT k = true) : PK H (ps ++ [p]) (ks ++ [k]) := by
  induction h with
  | nil => exact .cons e .nil
  | cons r t ih => exact .cons r ih
theorem RetDue.keep {H H' : Hp} {r : Option (List Key × List Key)} {v : V} (k : KeepT H H') (h : RetDue H r v) : RetDue H' r v := by
  cases r with
  | none => exact h
  | some r =>
    obtain ⟨p, a, b, e, h1, h2, h3, h4⟩ := h
    exact ⟨p, a, b, e, k _ _ h1 (fun _ z => nomatch z), k _ _ h2 (fun _ z => nomatch z), k _ _ h3 (fun _ z => nomatch z), h4⟩
variable {K : PySem.W.Frag} {mg : Str → Option Value} {A : Adr}
theorem datVs_terms {H : Hp} {ps : List Addr} {ks : List (List Key)} (h : PK H ps ks) : DatVs K H (ps.map V.ref) (ks.map fun k => .tuple (k.map dKey)) := by
  induction h with
  | nil => exact .nil
  | cons r t ih => exact .cons (datV_tup r.1) ih
theorem canLay_terms {H : Hp} {ps : List Addr} {ks : List (List Key)} (h : PK H ps ks) : PyData.canLayAll0 (ks.map fun k => .tuple (k.map dKey)) = true := by
  induction h with
  | nil => rfl
  | @cons p k ps ks r t ih =>
    show (PyData.canLayAll0 (k.map dKey) && PyData.canLayAll0 (ks.map fun k => .tuple (k.map dKey))) = true
    rw [canLay_keys (okT_str r.2), ih]; rfl
theorem depth_terms : ∀ ks : List (List Key), PyData.depthAll (ks.map fun k => .tuple (k.map dKey)) ≤ 1
  | [] => by decide
  | k :: r => by
    show max (PyData.depthAll (k.map dKey) + 1) (PyData.depthAll (r.map fun k => .tuple (k.map dKey))) ≤ 1
    rw [depth_keys]
    have := depth_terms r
    omega
theorem eqv_terms : ∀ ks : List (List Key), PyData.eqvAll (ks.map fun k => .tuple (k.map dKey)) (ks.map fun k => .tuple (k.map dKey)) = true
  | [] => rfl
  | k :: r => by
    show (PyData.eqvAll (k.map dKey) (k.map dKey) && PyData.eqvAll (r.map fun k => .tuple (k.map dKey)) (r.map fun k => .tuple (k.map dKey))) = true
    rw [eqvAll_keys, decide_eq_true rfl, eqv_terms r]; rfl
theorem KeepP.seq {P : Addr} {H H' : Hp} {a : Addr} {xs : List V} {ps : Array Value} (e : KeepP P H H') (hP : H P = some (.tbl ps)) (h : SqL K H a xs) : SqL K H' a xs := by
  rcases h with (h | ⟨o, h⟩) | h
  · exact .inl (.inl (e _ _ h (ne_of h hP (fun z => nomatch z))))
  · exact .inl (.inr ⟨o, e _ _ h (ne_of h hP (fun z => nomatch z))⟩)
  · exact .inr h
theorem KeepP.tup {P : Addr} {H H' : Hp} {ps : Array Value} (e : KeepP P H H') (hP : H P = some (.tbl ps)) : ∀ b xs, H b = some (.tup xs) → H' b = some (.tup xs) := fun b xs h => e _ _ h (ne_of h hP (fun z => nomatch z))
theorem due_nil {h : List Key → Key} {r : Option (List Key × List Key)} (e : IsDue h [] r) : r = none := by
  cases r with
  | none => rfl
  | some r => obtain ⟨j, k, _, h1, _⟩ := e; cases h1
theorem Stp.same {H H' : Hp} {f : Addr} {g : List Key → Option Key} {n : Nat} (s : Stp K A H f g n) (S : Same H H') : Stp K A H' f g n := s.keepL (Nat.le_refl _) fun _ _ e _ _ => S _ _ e
theorem len_law (K : PySem.W.Frag) (A : Adr) : ∀ vs H Q E, sp_law K A vs H Q E → vs.length = 1 := by rintro vs H Q E ⟨a, ns, rfl, _⟩; rfl
theorem rd_law (T : Txt K mg A) (vs : List V) (H : Hp) (Q : VK) (E : XK) (h : sp_law K A vs H Q E) : T_law K A { nx := fun _ H' => Q .non H', rt := Q } (start ["_law_script", "_law_terms", "_law_first", "_law_stamper", "_law_more", "_law_handed", "_law_due_here"] vs) H := by
  obtain ⟨a, ns, rfl, hs, hlen, ⟨tw, tp, tn⟩, q⟩ := h
  have tne : A.t__law_planted ≠ A.t__law_weak := fun e => by rw [e] at tn; simp at tn
  obtain ⟨zs, ez, hz⟩ := cutV_ints ns (some 2) (some 62)
  refine ⟨2, rfl, 62, rfl, .inl (.inl ⟨a, _, rfl, hs, fun p0 hp0 => ?_⟩)⟩
  rw [ez]
  have S0 := Same.upd (o := .lst (zs.map V.int)) hp0
  refine ⟨p0, rfl, .inl ⟨⟨_, SqL.of upd_same⟩, fun D hD => ?_⟩⟩
  refine comp_by (Items.list (xs := zs.map V.int) .non) (fun i ys H' => Same (upd H p0 (.lst (zs.map V.int))) H' ∧ H' D = some (.lst ys) ∧ ∃ ps ks, ys = ps.map V.ref ∧ PK H' ps ks ∧ ps.length = i) ?_ ?_ ?_ ?_
  · rintro i ys H' _ ⟨S, _⟩; exact S.seq (SqL.of upd_same)
  · exact ⟨Same.upd hD, upd_same, [], [], rfl, .nil, rfl⟩
  · rintro i ys H2 hi ⟨S, hys, ps, ks, rfl, pk, hl⟩
    rw [if_pos rfl]
    obtain ⟨z, ez'⟩ : ∃ z, (zs.map V.int).getD i .non = .int z := by
      have hi' : i < zs.length := by simpa using hi
      exact ⟨zs[i], by simp [List.getD_eq_getElem?_getD, hi']⟩
    rw [ez']
    refine tc1 rfl ⟨z, rfl, fun p k H3 S3 hp ok => ⟨S3 _ _ hys, Nat.lt_of_lt_of_le (by rw [List.length_map, hl]; exact Nat.lt_succ_self i) (line_ge (by rw [List.length_map] at hi; omega)), CWd.next hi ⟨?_, upd_same, ps ++ [p], ks ++ [k], by rw [List.map_append]; rfl, ?_, by rw [List.length_append, hl]; rfl⟩⟩⟩
    · intro b o e
      rw [upd_ne (ne_of_none e hD)]
      exact S3 _ _ (S _ _ e)
    · have kt : ∀ b xs, H3 b = some (.tup xs) → upd H3 D (.lst (ps.map V.ref ++ [V.ref p])) b = some (.tup xs) := fun b xs e => by rw [upd_ne (ne_of e (S3 _ _ hys) (fun z => nomatch z))]; exact e
      exact pk_snoc (pk_keep (fun b xs e => kt _ _ (S3 _ _ e)) pk) ⟨kt _ _ hp, ok⟩
  · rintro ys H1 ⟨S, hD1, ps, ks, rfl, pk, hl⟩
    have S1 := S0.trans S
    have pl := pk_len pk
    have hl63 : ks.length ≤ 63 := by rw [List.length_map] at hl; omega
    refine ⟨a, ns, 0, rfl, S1.seq hs, by decide, fun z => ⟨⟨by decide, by decide⟩, z / 4, rfl, S1 _ _ tw, fun f g H2 k2 s2 => ?_⟩⟩
    have tw1 := S1 _ _ tw
    have hD2 : H2 D = some (.lst (ps.map V.ref)) := k2 _ _ hD1 (ne_of hD1 tw1 (fun z => nomatch z))
    have pk2 := pk_keep (k2.tup tw1) pk
    have rest : ∀ (f : Addr) (g : List Key → Option Key) (H3 : Hp) (x4 : Option V), H3 D = some (.lst (ps.map V.ref)) → PK H3 ps ks → Stp K A H3 f g 0 → R_law_4 K A { nx := fun _ H' => Q .non H', rt := Q } [some (.ref a), some (.ref D), some (.int z), some (.ref f), x4, none, none] H3 := by
      intro f g H3 x4 hD3 pk3 s3
      refine ⟨D, _, rfl, .inl (SqL.of hD3), fun l hl => ?_⟩
      have S4 := Same.upd (o := .lst (ps.map V.ref)) hl
      refine ⟨f, D, ps, ks, g, 0, rfl, s3.same S4, S4 _ _ hD3, pk_keep (fun _ _ e => S4 _ _ e) pk3, by omega, fun v H5 g5 r k5 s5 sub5 rd5 is5 all5 => ?_⟩
      have hD5 : H5 D = some (.lst (ps.map V.ref)) := k5 _ _ (S4 _ _ hD3) (fun _ z => nomatch z)
      have hl5 : H5 l = some (.lst (ps.map V.ref)) := k5 _ _ upd_same (fun _ z => nomatch z)
      have pk5 := pk_keep (H' := H5) (fun _ _ e => k5 _ _ (S4 _ _ e) (fun _ z => nomatch z)) pk3
      have alike : ∀ (gx : List Key → Option Key) (rx : Option (List Key × List Key)), Sub g5 gx → (∀ h : List Key → Key, (∀ k x, gx k = some x → h k = x) → IsDue h ks rx) → rx = r := fun gx rx sx ix =>
        IsDue.one (ix (fun k => (gx k).getD (.inl 0)) fun k x e => by simp only [e]; rfl) (is5 _ fun k x e => by simp only [sx _ _ e]; rfl)
      refine ⟨f, l, ps, ks, g5, 0 + ks.length, rfl, s5, hl5, pk5, by omega, fun u H6 g6 r6 k6 s6 sub6 rd6 is6 => ?_⟩
      have e6 := alike g6 r6 sub6 is6
      subst e6
      have hD6 : H6 D = some (.lst (ps.map V.ref)) := k6 _ _ hD5 (fun _ z => nomatch z)
      have hl6 : H6 l = some (.lst (ps.map V.ref)) := k6 _ _ hl5 (fun _ z => nomatch z)
      have pk6 := pk_keep (H' := H6) (fun _ _ e => k6 _ _ e (fun _ z => nomatch z)) pk5
      refine ⟨u, v, r6, rfl, rd6, rd5.keep k6, Sel.f ⟨_, _, .lst (SqL.of hl6) (datVs_terms pk6), .lst (SqL.of hD6) (datVs_terms pk6), canLay_terms pk6, canLay_terms pk6, ?_, Sel.no ?_ ?_⟩⟩
      · show PyData.depthAll (ks.map fun k => .tuple (k.map dKey)) + 1 ≤ 150
        have := depth_terms ks
        omega
      · show (!PyData.eqvAll (ks.map fun k => .tuple (k.map dKey)) (ks.map fun k => .tuple (k.map dKey))) = false
        rw [eqv_terms]; rfl
      refine ⟨D, _, rfl, .inl (SqL.of hD6), fun l2 hl2 => ⟨line_ge (n := 2) (by decide), fun pA hA => ⟨line_ge (n := 2) (by decide), fun pB hB => ⟨line_ge (n := 2) (by decide), fun l3 hl3 => .inl ⟨l2, l3, ps.map V.ref, [V.ref pA, V.ref pB], rfl, rfl, ?_, upd_same, ?_, fun l4 hl4 => ?_⟩⟩⟩⟩⟩
      · exact ((Same.upd hA).trans ((Same.upd hB).trans (Same.upd hl3))) _ _ upd_same
      · show (ps.map V.ref).length + 2 ≤ sizeLine
        exact line_ge (by rw [List.length_map]; omega)
      have SB := (Same.upd (o := .lst [V.ref pA, V.ref pB]) hl3).trans (Same.upd (o := .lst (ps.map V.ref ++ [V.ref pA, V.ref pB])) hl4)
      have SA := (Same.upd (o := .tup [V.str "zz", V.int 9]) hB).trans SB
      have S2' := (Same.upd (o := .tup [V.str "z", V.int 9]) hA).trans SA
      have S7 := (Same.upd (o := .lst (ps.map V.ref)) hl2).trans S2'
      have pkA := pk_snoc (pk_snoc (pk_keep (fun _ _ e => S7 _ _ e) pk6) (p := pA) (k := [.inr "z", .inl 9]) ⟨SA _ _ upd_same, by decide +kernel⟩) (p := pB) (k := [.inr "zz", .inl 9]) ⟨SB _ _ upd_same, by decide +kernel⟩
      refine ⟨f, l4, ps ++ [pA] ++ [pB], ks ++ [[.inr "z", .inl 9]] ++ [[.inr "zz", .inl 9]], g6, 0 + ks.length + ks.length, rfl, s6.same S7, ?_, pkA, by simp only [List.length_append, List.length_singleton]; omega, fun u8 H8 g8 r8 k8 s8 sub8 rd8 is8 => ?_⟩
      · rw [upd_same]
        simp only [List.map_append, List.map_cons, List.map_nil, List.append_assoc, List.cons_append, List.nil_append]
      have hl8 : H8 l = some (.lst (ps.map V.ref)) := k8 _ _ (S7 _ _ hl6) (fun _ z => nomatch z)
      have pk8 := pk_keep (H' := H8) (fun _ _ e => k8 _ _ (S7 _ _ e) (fun _ z => nomatch z)) pk6
      have rd8' : RetDue H8 r6 v := ((rd5.keep k6).keep (KeepT.same S7)).keep k8
      refine ⟨f, l, ps, ks, g8, _, rfl, s8, hl8, pk8, by simp only [List.length_append, List.length_singleton]; omega, fun u9 H9 g9 r9 k9 s9 sub9 rd9 is9 => ?_⟩
      have e9 := alike g9 r9 (fun a b e => sub9 _ _ (sub8 _ _ (sub6 _ _ e))) is9
      subst e9
      refine ⟨u9, v, r9, rfl, rd9, rd8'.keep k9, Sel.t ⟨line_ge (n := 0) (by decide), fun l9 hl9 => ?_⟩⟩
      refine ⟨f, l9, [], [], g9, _, rfl, s9.same (Same.upd hl9), upd_same, .nil, by simp only [List.length_append, List.length_singleton, List.length_nil]; omega, fun u10 H10 g10 r10 k10 s10 sub10 rd10 is10 => ?_⟩
      have e10 := due_nil (is10 (fun k => (g10 k).getD (.inl 0)) fun k x e => by simp only [e]; rfl)
      subst e10
      have e : u10 = .non := rd10
      subst e
      exact q H10
    refine ⟨by decide, Sel.dec (fun h3 => ?_) (fun h3 => Sel.f (rest f g H2 none hD2 pk2 s2))⟩
    refine .inl (.inl ⟨_, SqL.of hD2, Sel.dec (fun hpos => ?_) (fun _ => rest f g H2 none hD2 pk2 s2)⟩)
    refine ⟨a, ns, 1, rfl, k2.seq tw1 (S1.seq hs), by decide, fun m => ?_⟩
    have get : ∀ i : Int, ∃ p k, ps[(i % ((ps.map V.ref).length : Int)).toNat]? = some p ∧ (i % ((ps.map V.ref).length : Int)) = ((i % ((ps.map V.ref).length : Int)).toNat : Nat) ∧ H2 p = some (.tup (k.map kV)) ∧ okT k = true := by
      intro i
      have h0 := Int.emod_nonneg i (b := ((ps.map V.ref).length : Int)) (by omega)
      have h1 := Int.emod_lt_of_pos i (b := ((ps.map V.ref).length : Int)) hpos
      have h2 : (i % ((ps.map V.ref).length : Int)).toNat < ps.length := by rw [List.length_map] at h1 ⊢; rw [List.length_map] at h0; omega
      obtain ⟨k, _, h3, h4⟩ := pk_get pk2 (List.getElem?_eq_getElem h2)
      exact ⟨_, k, List.getElem?_eq_getElem h2, by omega, h3, h4⟩
    obtain ⟨o1, k1, i1, j1, e1, w1⟩ := get m
    obtain ⟨o2, k2', i2, j2, e2, w2⟩ := get (m / 64)
    have f1 : (ps.map V.ref)[(m % ((ps.map V.ref).length : Int)).toNat]? = some (.ref o1) := by rw [List.getElem?_map, i1]; rfl
    have f2 : (ps.map V.ref)[(m / 64 % ((ps.map V.ref).length : Int)).toNat]? = some (.ref o2) := by rw [List.getElem?_map, i2]; rfl
    refine .inl (.inl ⟨_, SqL.of hD2, hpos, ixL hD2 j1 f1 ⟨⟨by decide, by decide⟩, .inl (.inl ⟨_, SqL.of hD2, hpos, ixL hD2 j2 f2 ?_⟩)⟩⟩)
    have tp2 : H2 A.t__law_planted = some (.tbl #[]) := k2 _ _ (S1 _ _ tp) tne
    refine ⟨o1, o2, k1, k2', rfl, e1, e2, w1, w2, tp2, fun f' g' H3 k3 s3 => ?_⟩
    exact rest f' g' H3 _ (k3 _ _ hD2 (ne_of hD2 tp2 (fun z => nomatch z))) (pk_keep (k3.tup tp2) pk2) s3
end Rs
namespace Rs
open PySem PySem.Spec PyProof.Rows L2
theorem ok__law_weak__c0 {P : Program} {w : World} {K : PySem.W.Frag} {mg : Str → Option Value} {base : Heap} {A : Adr} (T : Txt K mg A) (G__law_sum : FnOk P w K mg base (CX1 P w) 1 A.a__law_sum A.d__law_sum ["_law_term_here"] (sp__law_sum K A)) : CloOk P w K mg base 2 ct__law_weak__c0 (sp__law_weak__c0 K A) :=
  clo_ofE rfl sc__law_weak__c0 (fun f c cl Ar outer s H vs cvs Q E hr hl hc h => match vs, hl, cvs, hc, h with
    | [a0], _, [b0], _, h => ⟨_, (tm__law_weak__c0 T G__law_sum f c cl Ar outer s H E hr).nox, rd__law_weak__c0 T a0 b0 H Q E h⟩)
theorem ok__law_weak__c1 {P : Program} {w : World} {K : PySem.W.Frag} {mg : Str → Option Value} {base : Heap} {A : Adr} (T : Txt K mg A) (G__law_sum : FnOk P w K mg base (CX1 P w) 1 A.a__law_sum A.d__law_sum ["_law_term_here"] (sp__law_sum K A)) : CloOk P w K mg base 2 ct__law_weak__c1 (sp__law_weak__c1 K A) :=
  clo_ofE rfl sc__law_weak__c1 (fun f c cl Ar outer s H vs cvs Q E hr hl hc h => match vs, hl, cvs, hc, h with
    | [a0], _, [b0], _, h => ⟨_, (tm__law_weak__c1 T G__law_sum f c cl Ar outer s H E hr).nox, rd__law_weak__c1 T a0 b0 H Q E h⟩)
theorem ok__law_weak__c2 {P : Program} {w : World} {K : PySem.W.Frag} {mg : Str → Option Value} {base : Heap} {A : Adr} (T : Txt K mg A) (G__law_sum : FnOk P w K mg base (CX1 P w) 1 A.a__law_sum A.d__law_sum ["_law_term_here"] (sp__law_sum K A)) : CloOk P w K mg base 2 ct__law_weak__c2 (sp__law_weak__c2 K A) :=
  clo_ofE rfl sc__law_weak__c2 (fun f c cl Ar outer s H vs cvs Q E hr hl hc h => match vs, hl, cvs, hc, h with
    | [a0], _, [b0], _, h => ⟨_, (tm__law_weak__c2 T G__law_sum f c cl Ar outer s H E hr).nox, rd__law_weak__c2 T a0 b0 H Q E h⟩)
theorem ok__law_planted__c0 {P : Program} {w : World} {K : PySem.W.Frag} {mg : Str → Option Value} {base : Heap} {A : Adr} (T : Txt K mg A)  : CloOk P w K mg base 1 ct__law_planted__c0 (sp__law_planted__c0 K A) :=
  clo_of rfl sc__law_planted__c0 (fun f c cl Ar outer s H vs cvs Q E hr hl hc h => match vs, hl, cvs, hc, h with
    | [a0], _, [b0, b1, b2], _, h => ⟨_, (tm__law_planted__c0 T  f c cl Ar outer s H E hr).nox, rd__law_planted__c0 T a0 b0 b1 b2 H Q E h⟩)
theorem ok__law_planted__c1 {P : Program} {w : World} {K : PySem.W.Frag} {mg : Str → Option Value} {base : Heap} {A : Adr} (T : Txt K mg A)  : CloOk P w K mg base 1 ct__law_planted__c1 (sp__law_planted__c1 K A) :=
  clo_ofE rfl sc__law_planted__c1 (fun f c cl Ar outer s H vs cvs Q E hr hl hc h => match vs, hl, cvs, hc, h with
    | [a0], _, [b0], _, h => ⟨_, (tm__law_planted__c1 T  f c cl Ar outer s H E hr).nox, rd__law_planted__c1 T a0 b0 H Q E h⟩)
theorem ok__law_sum {P : Program} {w : World} {K : PySem.W.Frag} {mg : Str → Option Value} {base : Heap} {A : Adr} (T : Txt K mg A)  : FnOk P w K mg base (CX1 P w) 1 A.a__law_sum A.d__law_sum ["_law_term_here"] (sp__law_sum K A) :=
  T.f__law_sum.okN sc__law_sum (len__law_sum K A) (fun cdv Ar outer s H vs Q E hr h => ⟨_, tm__law_sum T  cdv Ar outer s H E hr, rd__law_sum T vs H Q E h⟩)
theorem ok__law_term {P : Program} {w : World} {K : PySem.W.Frag} {mg : Str → Option Value} {base : Heap} {A : Adr} (T : Txt K mg A)  : FnOk P w K mg base (CX1 P w) 1 A.a__law_term A.d__law_term ["_law_cell"] (sp__law_term K A) :=
  T.f__law_term.okN sc__law_term (len__law_term K A) (fun cdv Ar outer s H vs Q E hr h => ⟨_, tm__law_term T  cdv Ar outer s H E hr, rd__law_term T vs H Q E h⟩)
theorem ok__law_cell_at {P : Program} {w : World} {K : PySem.W.Frag} {mg : Str → Option Value} {base : Heap} {A : Adr} (T : Txt K mg A)  : FnOk P w K mg base (CX1 P w) 1 A.a__law_cell_at A.d__law_cell_at ["_law_script", "_law_k"] (sp__law_cell_at K A) :=
  T.f__law_cell_at.okN sc__law_cell_at (len__law_cell_at K A) (fun cdv Ar outer s H vs Q E hr h => ⟨_, tm__law_cell_at T  cdv Ar outer s H E hr, rd__law_cell_at T vs H Q E h⟩)
theorem ok__law_weak {P : Program} {w : World} {K : PySem.W.Frag} {mg : Str → Option Value} {base : Heap} {A : Adr} (T : Txt K mg A) (B : BM mg base) (C : PySem.W.CodeHd base A.k__law_weak A.t__law_weak)  : FnOk P w K mg base (CX1 P w) 1 A.a__law_weak A.d__law_weak ["_law_cell"] (sp__law_weak K A) :=
  T.f__law_weak.okM (caps := fun L => [(1, L + 1)]) T.kc__law_weak sc__law_weak (len__law_weak K A) (fun L p hp => by simp only [List.mem_cons, List.not_mem_nil, or_false] at hp; rcases hp with rfl <;> exact ⟨_, rfl, rfl, rfl⟩) (fun L => by simp) (fun Ar outer s H vs Q E hr h => ⟨_, QMs.nox (tm__law_weak T B C  Ar outer s H E hr), rd__law_weak T (s.heap.objs.size + 1) (by simp) vs H Q E h⟩)
theorem ok__law_planted {P : Program} {w : World} {K : PySem.W.Frag} {mg : Str → Option Value} {base : Heap} {A : Adr} (T : Txt K mg A) (B : BM mg base) (C : PySem.W.CodeHd base A.k__law_planted A.t__law_planted)  : FnOk P w K mg base (CX1 P w) 1 A.a__law_planted A.d__law_planted ["_law_one", "_law_other"] (sp__law_planted K A) :=
  T.f__law_planted.okM (caps := fun L => [(0, L + 1), (1, L + 1 + 1), (2, L + 1 + 1 + 1)]) T.kc__law_planted sc__law_planted (len__law_planted K A) (fun L p hp => by simp only [List.mem_cons, List.not_mem_nil, or_false] at hp; rcases hp with rfl | rfl | rfl <;> exact ⟨_, rfl, rfl, rfl⟩) (fun L => by simp) (fun Ar outer s H vs Q E hr h => ⟨_, QMs.nox (tm__law_planted T B C  Ar outer s H E hr), rd__law_planted T (s.heap.objs.size + 1) (s.heap.objs.size + 1 + 1) (s.heap.objs.size + 1 + 1 + 1) (by simp) vs H Q E h⟩)
theorem ok__law_due {P : Program} {w : World} {K : PySem.W.Frag} {mg : Str → Option Value} {base : Heap} {A : Adr} (T : Txt K mg A) (HK1 : KindsOk P w K mg base 2 (Knd1 K A)) : FnOk P w K mg base (CX1 P w) 3 A.a__law_due A.d__law_due ["_law_stamper", "_law_terms"] (sp__law_due K A) :=
  T.f__law_due.okN sc__law_due (len__law_due K A) (fun cdv Ar outer s H vs Q E hr h => ⟨_, tm__law_due T HK1 cdv Ar outer s H E hr, rd__law_due T vs H Q E h⟩)
theorem ok__law_alike {P : Program} {w : World} {K : PySem.W.Frag} {mg : Str → Option Value} {base : Heap} {A : Adr} (T : Txt K mg A)  : FnOk P w K mg base (CX1 P w) 1 A.a__law_alike A.d__law_alike ["_law_found", "_law_due_here"] (sp__law_alike K A) :=
  T.f__law_alike.okN sc__law_alike (len__law_alike K A) (fun cdv Ar outer s H vs Q E hr h => ⟨_, tm__law_alike T  cdv Ar outer s H E hr, rd__law_alike T vs H Q E h⟩)
theorem ok_clash {P : Program} {w : World} {K : PySem.W.Frag} {mg : Str → Option Value} {base : Heap} {A : Adr} (T : Txt K mg A) (HK1 : KindsOk P w K mg base 2 (Knd1 K A)) : FnOk P w K mg base (CX1 P w) 3 A.a_clash A.d_clash ["stamper", "terms"] (sp_clash K A) :=
  T.f_clash.okN sc_clash (len_clash K A) (fun cdv Ar outer s H vs Q E hr h => ⟨_, tm_clash T HK1 cdv Ar outer s H E hr, rd_clash T vs H Q E h⟩)
theorem ok_law {P : Program} {w : World} {K : PySem.W.Frag} {mg : Str → Option Value} {base : Heap} {A : Adr} (T : Txt K mg A) (G__law_term : FnOk P w K mg base (CX1 P w) 1 A.a__law_term A.d__law_term ["_law_cell"] (sp__law_term K A)) (G__law_cell_at : FnOk P w K mg base (CX1 P w) 1 A.a__law_cell_at A.d__law_cell_at ["_law_script", "_law_k"] (sp__law_cell_at K A)) (G__law_weak : FnOk P w K mg base (CX1 P w) 1 A.a__law_weak A.d__law_weak ["_law_cell"] (sp__law_weak K A)) (G__law_planted : FnOk P w K mg base (CX1 P w) 1 A.a__law_planted A.d__law_planted ["_law_one", "_law_other"] (sp__law_planted K A)) (G__law_due : FnOk P w K mg base (CX1 P w) 3 A.a__law_due A.d__law_due ["_law_stamper", "_law_terms"] (sp__law_due K A)) (G__law_alike : FnOk P w K mg base (CX1 P w) 1 A.a__law_alike A.d__law_alike ["_law_found", "_law_due_here"] (sp__law_alike K A)) (G_clash : FnOk P w K mg base (CX1 P w) 3 A.a_clash A.d_clash ["stamper", "terms"] (sp_clash K A)) : FnOk P w K mg base (CX1 P w) 4 A.a_law A.d_law ["_law_script"] (sp_law K A) :=
  T.f_law.okN sc_law (len_law K A) (fun cdv Ar outer s H vs Q E hr h => ⟨_, tm_law T G__law_term G__law_cell_at G__law_weak G__law_planted G__law_due G__law_alike G_clash cdv Ar outer s H E hr, rd_law T vs H Q E h⟩)
theorem kinds1 {P : Program} {w : World} {K : PySem.W.Frag} {mg : Str → Option Value} {base : Heap} {A : Adr} (G__law_weak__c0 : CloOk P w K mg base 2 ct__law_weak__c0 (sp__law_weak__c0 K A)) (G__law_weak__c1 : CloOk P w K mg base 2 ct__law_weak__c1 (sp__law_weak__c1 K A)) (G__law_weak__c2 : CloOk P w K mg base 2 ct__law_weak__c2 (sp__law_weak__c2 K A)) (G__law_planted__c0 : CloOk P w K mg base 2 ct__law_planted__c0 (sp__law_planted__c0 K A)) (G__law_planted__c1 : CloOk P w K mg base 2 ct__law_planted__c1 (sp__law_planted__c1 K A)) : KindsOk P w K mg base 2 (Knd1 K A) := fun ts hts => by
  simp only [Knd1, List.mem_cons, List.not_mem_nil, or_false] at hts
  rcases hts with rfl | rfl | rfl | rfl | rfl
  · exact G__law_weak__c0
  · exact G__law_weak__c1
  · exact G__law_weak__c2
  · exact G__law_planted__c0
  · exact G__law_planted__c1
theorem all_mk {l : PySem.W.OpenLaw} {w : World} {K : PySem.W.Frag} {h : Heap} {mg : Str → Option Value} {fa : Addr} (X : K.In h) (G : h.Ns mainGlobals mg) (hfa : mg "law" = some (.ref fa))
    {x__law_sum x__law_term x__law_cell_at x__law_weak x__law_planted x__law_due x__law_alike x_clash x_law : Addr} {od0 an0 od1 an1 od2 an2 od3 an3 od4 an4 od5 an5 od6 an6 od7 an7 od8 an8 : Option Addr} {sl0 sl1 sl2 sl3 sl4 sl5 sl6 sl7 sl8 : Array (Option Value)} {oc0 kV0 dc0 pm0 cd0 ct0 oc1 kV1 dc1 pm1 cd1 ct1 oc2 kV2 dc2 pm2 cd2 ct2 oc3 kV3 dc3 pm3 cd3 ct3 oc4 kV4 dc4 pm4 cd4 ct4 oc5 kV5 dc5 pm5 cd5 ct5 oc6 kV6 dc6 pm6 cd6 ct6 oc7 kV7 dc7 pm7 cd7 ct7 oc8 kV8 dc8 pm8 cd8 ct8 : Value}
    (a0 : PySem.W.nsIn K mainGlobals "_law_sum" = some (some (.ref x__law_sum))) (l0 : K.lookup x__law_sum = some ⟨oc0, od0, .func (PySem.W.fnOf "_law_sum" "_law_sum" (defArgs s__law_sum) (defBody s__law_sum) (defScope s__law_sum) .none kV0 dc0 pm0 an0 cd0 ct0), sl0⟩) (c0 : PySem.W.codeIn K cd0 "_law_sum" = true) (k0 : PySem.W.keepIn K (.ref x__law_sum) = true)
    (a1 : PySem.W.nsIn K mainGlobals "_law_term" = some (some (.ref x__law_term))) (l1 : K.lookup x__law_term = some ⟨oc1, od1, .func (PySem.W.fnOf "_law_term" "_law_term" (defArgs s__law_term) (defBody s__law_term) (defScope s__law_term) .none kV1 dc1 pm1 an1 cd1 ct1), sl1⟩) (c1 : PySem.W.codeIn K cd1 "_law_term" = true) (k1 : PySem.W.keepIn K (.ref x__law_term) = true)
    (a2 : PySem.W.nsIn K mainGlobals "_law_cell_at" = some (some (.ref x__law_cell_at))) (l2 : K.lookup x__law_cell_at = some ⟨oc2, od2, .func (PySem.W.fnOf "_law_cell_at" "_law_cell_at" (defArgs s__law_cell_at) (defBody s__law_cell_at) (defScope s__law_cell_at) .none kV2 dc2 pm2 an2 cd2 ct2), sl2⟩) (c2 : PySem.W.codeIn K cd2 "_law_cell_at" = true) (k2 : PySem.W.keepIn K (.ref x__law_cell_at) = true)
    (a3 : PySem.W.nsIn K mainGlobals "_law_weak" = some (some (.ref x__law_weak))) (l3 : K.lookup x__law_weak = some ⟨oc3, od3, .func (PySem.W.fnOf "_law_weak" "_law_weak" (defArgs s__law_weak) (defBody s__law_weak) (defScope s__law_weak) .none kV3 dc3 pm3 an3 cd3 ct3), sl3⟩) (c3 : PySem.W.codeIn K cd3 "_law_weak" = true) (k3 : PySem.W.keepIn K (.ref x__law_weak) = true)
    (tb__law_weak : (PySem.W.tabIn K "_law_weak").isSome = true)
    (a4 : PySem.W.nsIn K mainGlobals "_law_planted" = some (some (.ref x__law_planted))) (l4 : K.lookup x__law_planted = some ⟨oc4, od4, .func (PySem.W.fnOf "_law_planted" "_law_planted" (defArgs s__law_planted) (defBody s__law_planted) (defScope s__law_planted) .none kV4 dc4 pm4 an4 cd4 ct4), sl4⟩) (c4 : PySem.W.codeIn K cd4 "_law_planted" = true) (k4 : PySem.W.keepIn K (.ref x__law_planted) = true)
    (tb__law_planted : (PySem.W.tabIn K "_law_planted").isSome = true)
    (a5 : PySem.W.nsIn K mainGlobals "_law_due" = some (some (.ref x__law_due))) (l5 : K.lookup x__law_due = some ⟨oc5, od5, .func (PySem.W.fnOf "_law_due" "_law_due" (defArgs s__law_due) (defBody s__law_due) (defScope s__law_due) .none kV5 dc5 pm5 an5 cd5 ct5), sl5⟩) (c5 : PySem.W.codeIn K cd5 "_law_due" = true) (k5 : PySem.W.keepIn K (.ref x__law_due) = true)
    (a6 : PySem.W.nsIn K mainGlobals "_law_alike" = some (some (.ref x__law_alike))) (l6 : K.lookup x__law_alike = some ⟨oc6, od6, .func (PySem.W.fnOf "_law_alike" "_law_alike" (defArgs s__law_alike) (defBody s__law_alike) (defScope s__law_alike) .none kV6 dc6 pm6 an6 cd6 ct6), sl6⟩) (c6 : PySem.W.codeIn K cd6 "_law_alike" = true) (k6 : PySem.W.keepIn K (.ref x__law_alike) = true)
    (a7 : PySem.W.nsIn K mainGlobals "clash" = some (some (.ref x_clash))) (l7 : K.lookup x_clash = some ⟨oc7, od7, .func (PySem.W.fnOf "clash" "clash" (defArgs s_clash) (defBody s_clash) (defScope s_clash) .none kV7 dc7 pm7 an7 cd7 ct7), sl7⟩) (c7 : PySem.W.codeIn K cd7 "clash" = true) (k7 : PySem.W.keepIn K (.ref x_clash) = true)
    (a8 : PySem.W.nsIn K mainGlobals "law" = some (some (.ref x_law))) (l8 : K.lookup x_law = some ⟨oc8, od8, .func (PySem.W.fnOf "law" "law" (defArgs s_law) (defBody s_law) (defScope s_law) .none kV8 dc8 pm8 an8 cd8 ct8), sl8⟩) (c8 : PySem.W.codeIn K cd8 "law" = true) (k8 : PySem.W.keepIn K (.ref x_law) = true)
    (z_isinstance : PySem.W.nsIn K mainGlobals "isinstance" = some none)
    (z_len : PySem.W.nsIn K mainGlobals "len" = some none)
    (z_list : PySem.W.nsIn K mainGlobals "list" = some none)
    (z_ord : PySem.W.nsIn K mainGlobals "ord" = some none)
    (z_range : PySem.W.nsIn K mainGlobals "range" = some none)
    (z_str : PySem.W.nsIn K mainGlobals "str" = some none)
    (z_tuple : PySem.W.nsIn K mainGlobals "tuple" = some none)
    (nt : PySem.W.noTabs K = true)
    (td : tabsApart K ["_law_weak", "_law_planted"] = true) :
    ∃ (fd : FuncData) (tabs : List (Addr × Addr)) (sp : Sp), (∀ (s : Shared) (v : Value), BindsTo s fd ⟨[v], []⟩ [("_law_script", v)]) ∧ PySem.W.noTabs K = true ∧ (∀ t ∈ tabs, ∃ y ∈ (["_law_weak", "_law_planted"] : List Str), PySem.W.tabIn K y = some t) ∧
      (∀ base : Heap, K.In base → base.Ns mainGlobals mg → BM mg base → (∀ t ∈ tabs, PySem.W.CodeHd base t.1 t.2) → FnOk l.prog w K mg base (CX1 l.prog w) 4 fa fd ["_law_script"] sp) ∧
      ∀ (H : Hp) (a : Addr) (ns : List Int), ns.length ≤ 63 → (∀ t ∈ tabs, H t.2 = some (.tbl #[])) → SqL K H a (ns.map V.int) → sp [.ref a] H (fun v _ => v = .bl true) fun _ _ _ => False := by
  have e := hfa.symm.trans (PySem.W.mg_of X G a8)
  cases e
  obtain ⟨⟨z__law_weak, t__law_weak⟩, tb__law_weak⟩ := Option.isSome_iff_exists.mp tb__law_weak
  have kc__law_weak : cd3 = .ref z__law_weak := PySem.W.law_code X G tb__law_weak (PySem.W.mg_of X G a3) (X _ _ l3) rfl
  subst kc__law_weak
  obtain ⟨⟨z__law_planted, t__law_planted⟩, tb__law_planted⟩ := Option.isSome_iff_exists.mp tb__law_planted
  have kc__law_planted : cd4 = .ref z__law_planted := PySem.W.law_code X G tb__law_planted (PySem.W.mg_of X G a4) (X _ _ l4) rfl
  subst kc__law_planted
  have tdn : [t__law_weak, t__law_planted].Nodup := apart_of (by unfold tabsApart at td; simp only [List.map_cons, List.map_nil, tb__law_weak, tb__law_planted, Option.map_some] at td; exact of_decide_eq_true td)
  have T : Txt K mg ⟨x__law_sum, PySem.W.fnOf "_law_sum" "_law_sum" (defArgs s__law_sum) (defBody s__law_sum) (defScope s__law_sum) .none kV0 dc0 pm0 an0 cd0 ct0, x__law_term, PySem.W.fnOf "_law_term" "_law_term" (defArgs s__law_term) (defBody s__law_term) (defScope s__law_term) .none kV1 dc1 pm1 an1 cd1 ct1, x__law_cell_at, PySem.W.fnOf "_law_cell_at" "_law_cell_at" (defArgs s__law_cell_at) (defBody s__law_cell_at) (defScope s__law_cell_at) .none kV2 dc2 pm2 an2 cd2 ct2, x__law_weak, PySem.W.fnOf "_law_weak" "_law_weak" (defArgs s__law_weak) (defBody s__law_weak) (defScope s__law_weak) .none kV3 dc3 pm3 an3 (.ref z__law_weak) ct3, x__law_planted, PySem.W.fnOf "_law_planted" "_law_planted" (defArgs s__law_planted) (defBody s__law_planted) (defScope s__law_planted) .none kV4 dc4 pm4 an4 (.ref z__law_planted) ct4, x__law_due, PySem.W.fnOf "_law_due" "_law_due" (defArgs s__law_due) (defBody s__law_due) (defScope s__law_due) .none kV5 dc5 pm5 an5 cd5 ct5, x__law_alike, PySem.W.fnOf "_law_alike" "_law_alike" (defArgs s__law_alike) (defBody s__law_alike) (defScope s__law_alike) .none kV6 dc6 pm6 an6 cd6 ct6, x_clash, PySem.W.fnOf "clash" "clash" (defArgs s_clash) (defBody s_clash) (defScope s_clash) .none kV7 dc7 pm7 an7 cd7 ct7, fa, PySem.W.fnOf "law" "law" (defArgs s_law) (defBody s_law) (defScope s_law) .none kV8 dc8 pm8 an8 cd8 ct8, z__law_weak, t__law_weak, z__law_planted, t__law_planted⟩ := ⟨fun_mk (st := s__law_sum) l0 c0 k0, PySem.W.mg_of X G a0, (fun_mk (st := s__law_sum) l0 c0 k0).binds (ps := ["_law_term_here"]) fun _ _ _ _ _ _ us hl => match us, hl with | [_], _ => rfl, fun_mk (st := s__law_term) l1 c1 k1, PySem.W.mg_of X G a1, (fun_mk (st := s__law_term) l1 c1 k1).binds (ps := ["_law_cell"]) fun _ _ _ _ _ _ us hl => match us, hl with | [_], _ => rfl, fun_mk (st := s__law_cell_at) l2 c2 k2, PySem.W.mg_of X G a2, (fun_mk (st := s__law_cell_at) l2 c2 k2).binds (ps := ["_law_script", "_law_k"]) fun _ _ _ _ _ _ us hl => match us, hl with | [_, _], _ => rfl, fun_mk (st := s__law_weak) l3 c3 k3, PySem.W.mg_of X G a3, (fun_mk (st := s__law_weak) l3 c3 k3).binds (ps := ["_law_cell"]) fun _ _ _ _ _ _ us hl => match us, hl with | [_], _ => rfl, fun_mk (st := s__law_planted) l4 c4 k4, PySem.W.mg_of X G a4, (fun_mk (st := s__law_planted) l4 c4 k4).binds (ps := ["_law_one", "_law_other"]) fun _ _ _ _ _ _ us hl => match us, hl with | [_, _], _ => rfl, fun_mk (st := s__law_due) l5 c5 k5, PySem.W.mg_of X G a5, (fun_mk (st := s__law_due) l5 c5 k5).binds (ps := ["_law_stamper", "_law_terms"]) fun _ _ _ _ _ _ us hl => match us, hl with | [_, _], _ => rfl, fun_mk (st := s__law_alike) l6 c6 k6, PySem.W.mg_of X G a6, (fun_mk (st := s__law_alike) l6 c6 k6).binds (ps := ["_law_found", "_law_due_here"]) fun _ _ _ _ _ _ us hl => match us, hl with | [_, _], _ => rfl, fun_mk (st := s_clash) l7 c7 k7, PySem.W.mg_of X G a7, (fun_mk (st := s_clash) l7 c7 k7).binds (ps := ["stamper", "terms"]) fun _ _ _ _ _ _ us hl => match us, hl with | [_, _], _ => rfl, fun_mk (st := s_law) l8 c8 k8, PySem.W.mg_of X G a8, (fun_mk (st := s_law) l8 c8 k8).binds (ps := ["_law_script"]) fun _ _ _ _ _ _ us hl => match us, hl with | [_], _ => rfl, PySem.W.mg_none_of X G z_isinstance, PySem.W.mg_none_of X G z_len, PySem.W.mg_none_of X G z_list, PySem.W.mg_none_of X G z_ord, PySem.W.mg_none_of X G z_range, PySem.W.mg_none_of X G z_str, PySem.W.mg_none_of X G z_tuple, rfl, rfl⟩
  refine ⟨PySem.W.fnOf "law" "law" (defArgs s_law) (defBody s_law) (defScope s_law) .none kV8 dc8 pm8 an8 cd8 ct8, [(z__law_weak, t__law_weak), (z__law_planted, t__law_planted)], sp_law K ⟨x__law_sum, PySem.W.fnOf "_law_sum" "_law_sum" (defArgs s__law_sum) (defBody s__law_sum) (defScope s__law_sum) .none kV0 dc0 pm0 an0 cd0 ct0, x__law_term, PySem.W.fnOf "_law_term" "_law_term" (defArgs s__law_term) (defBody s__law_term) (defScope s__law_term) .none kV1 dc1 pm1 an1 cd1 ct1, x__law_cell_at, PySem.W.fnOf "_law_cell_at" "_law_cell_at" (defArgs s__law_cell_at) (defBody s__law_cell_at) (defScope s__law_cell_at) .none kV2 dc2 pm2 an2 cd2 ct2, x__law_weak, PySem.W.fnOf "_law_weak" "_law_weak" (defArgs s__law_weak) (defBody s__law_weak) (defScope s__law_weak) .none kV3 dc3 pm3 an3 (.ref z__law_weak) ct3, x__law_planted, PySem.W.fnOf "_law_planted" "_law_planted" (defArgs s__law_planted) (defBody s__law_planted) (defScope s__law_planted) .none kV4 dc4 pm4 an4 (.ref z__law_planted) ct4, x__law_due, PySem.W.fnOf "_law_due" "_law_due" (defArgs s__law_due) (defBody s__law_due) (defScope s__law_due) .none kV5 dc5 pm5 an5 cd5 ct5, x__law_alike, PySem.W.fnOf "_law_alike" "_law_alike" (defArgs s__law_alike) (defBody s__law_alike) (defScope s__law_alike) .none kV6 dc6 pm6 an6 cd6 ct6, x_clash, PySem.W.fnOf "clash" "clash" (defArgs s_clash) (defBody s_clash) (defScope s_clash) .none kV7 dc7 pm7 an7 cd7 ct7, fa, PySem.W.fnOf "law" "law" (defArgs s_law) (defBody s_law) (defScope s_law) .none kV8 dc8 pm8 an8 cd8 ct8, z__law_weak, t__law_weak, z__law_planted, t__law_planted⟩, fun s v => .of_eq rfl, nt, ?_, fun base _ _ B C => ?_, fun H a ns hl hO hS => ⟨a, ns, rfl, hS, hl, ⟨hO (z__law_weak, t__law_weak) (by simp), hO (z__law_planted, t__law_planted) (by simp), tdn⟩, fun _ => rfl⟩⟩
  · intro t ht
    simp only [List.mem_cons, List.not_mem_nil, or_false] at ht
    rcases ht with rfl | rfl
    · exact ⟨"_law_weak", by simp, tb__law_weak⟩
    · exact ⟨"_law_planted", by simp, tb__law_planted⟩
  have G__law_sum := ok__law_sum (P := l.prog) (w := w) (base := base) T 
  have G__law_weak__c0 := ok__law_weak__c0 (P := l.prog) (w := w) (base := base) T G__law_sum
  have G__law_weak__c1 := ok__law_weak__c1 (P := l.prog) (w := w) (base := base) T G__law_sum
  have G__law_weak__c2 := ok__law_weak__c2 (P := l.prog) (w := w) (base := base) T G__law_sum
  have G__law_planted__c0 := ok__law_planted__c0 (P := l.prog) (w := w) (base := base) T 
  have G__law_planted__c1 := ok__law_planted__c1 (P := l.prog) (w := w) (base := base) T 
  have G__law_term := ok__law_term (P := l.prog) (w := w) (base := base) T 
  have G__law_cell_at := ok__law_cell_at (P := l.prog) (w := w) (base := base) T 
  have G__law_weak := ok__law_weak (P := l.prog) (w := w) (base := base) T B (C (z__law_weak, t__law_weak) (by simp)) 
  have G__law_planted := ok__law_planted (P := l.prog) (w := w) (base := base) T B (C (z__law_planted, t__law_planted) (by simp)) 
  have HK1 := kinds1 (P := l.prog) (w := w) (base := base) (G__law_weak__c0.mono (by decide)) (G__law_weak__c1.mono (by decide)) (G__law_weak__c2.mono (by decide)) (G__law_planted__c0.mono (by decide)) (G__law_planted__c1.mono (by decide))
  have G__law_due := ok__law_due (P := l.prog) (w := w) (base := base) T HK1
  have G__law_alike := ok__law_alike (P := l.prog) (w := w) (base := base) T 
  have G_clash := ok_clash (P := l.prog) (w := w) (base := base) T HK1
  have G_law := ok_law (P := l.prog) (w := w) (base := base) T G__law_term G__law_cell_at G__law_weak G__law_planted G__law_due G__law_alike G_clash
  exact G_law
theorem walk {l : PySem.W.OpenLaw} {q : Program} {loose : List Str} {XP : (Str → Option Value) → Heap → Prop} {YP : World → Heap → Prop} {d : DefRec} {K : Params → PySem.W.Frag} (hn : l.most = some 63) (hdf : d.params.defaults = [])
    (hY : ∀ (w : World) (h : Heap), YP w h → (K w.params).In h) (hq : ∀ y ∈ (["_law_weak", "_law_planted"] : List Str), ((PyProof.Rows.recsOf q).find? fun e => e.name == y).isSome = true)
    (F : ∀ (w : World) (mg : Str → Option Value) (fa : Addr) (h : Heap), (K w.params).In h → h.Ns mainGlobals mg → mg d.name = some (.ref fa) →
      ∃ (fd : FuncData) (tabs : List (Addr × Addr)) (sp : Sp), (∀ (s : Shared) (u : Value), BindsTo s fd ⟨[u], []⟩ [("_law_script", u)]) ∧ PySem.W.noTabs (K w.params) = true ∧ (∀ t ∈ tabs, ∃ y ∈ (["_law_weak", "_law_planted"] : List Str), PySem.W.tabIn (K w.params) y = some t) ∧
        (∀ base : Heap, (K w.params).In base → base.Ns mainGlobals mg → BM mg base → (∀ t ∈ tabs, PySem.W.CodeHd base t.1 t.2) → FnOk l.prog w (K w.params) mg base (CX1 l.prog w) 4 fa fd ["_law_script"] sp) ∧
        ∀ (H : Hp) (a : Addr) (ns : List Int), ns.length ≤ 63 → (∀ t ∈ tabs, H t.2 = some (.tbl #[])) → SqL (K w.params) H a (ns.map V.int) → sp [.ref a] H (fun v _ => v = .bl true) fun _ _ _ => False) :
    PySem.W.WalkO q loose XP YP l.row.toRowW d [] (fun f vs => PySem.call f vs) :=
  L2.walk_ofT (n := 63) (k := 4) (x := "_law_script") (CX := fun w => CX1 l.prog w) hn (by decide) hdf ⟨rfl, by decide, by decide⟩ hY hq F fun _ _ _ _ _ ⟨_, _, _, _, _, z⟩ => z
end Rs
open PySem PySem.W PyProof.Rows
set_option maxRecDepth 100000 in
set_option maxHeartbeats 0 in
theorem PySem.Challenge.cw_rootstamp_k06_a_clash_holds : PySem.Challenge.rw_rootstamp_k06_a_clash.Holds := by
  w_on; o_law; k_head; (case hw => w_witness2)
  k_fill
  refine Rs.walk (l := PySem.Challenge.rw_rootstamp_k06_a_clash) rfl rfl (fun w h Y => by first | exact PySem.W.kIn_of Y | exact PySem.W.km_in_of Y) (by decide +kernel) ?F
  case F =>
    intro w mg fa h KX G hmg
    refine' Rs.all_mk KX G hmg ?a0 ?l0 ?c0 ?k0 ?a1 ?l1 ?c1 ?k1 ?a2 ?l2 ?c2 ?k2 ?a3 ?l3 ?c3 ?k3 ?tb__law_weak ?a4 ?l4 ?c4 ?k4 ?tb__law_planted ?a5 ?l5 ?c5 ?k5 ?a6 ?l6 ?c6 ?k6 ?a7 ?l7 ?c7 ?k7 ?a8 ?l8 ?c8 ?k8 ?z_isinstance ?z_len ?z_list ?z_ord ?z_range ?z_str ?z_tuple ?nt ?td
    (case a0 => k_is); (case l0 => k_is); (case c0 => k_is); (case k0 => k_is); (case a1 => k_is); (case l1 => k_is)
    (case c1 => k_is); (case k1 => k_is); (case a2 => k_is); (case l2 => k_is); (case c2 => k_is); (case k2 => k_is)
    (case a3 => k_is); (case l3 => k_is); (case c3 => k_is); (case k3 => k_is); (case tb__law_weak => kernel_rfl); (case a4 => k_is)
    (case l4 => k_is); (case c4 => k_is); (case k4 => k_is); (case tb__law_planted => kernel_rfl); (case a5 => k_is); (case l5 => k_is)
    (case c5 => k_is); (case k5 => k_is); (case a6 => k_is); (case l6 => k_is); (case c6 => k_is); (case k6 => k_is)
    (case a7 => k_is); (case l7 => k_is); (case c7 => k_is); (case k7 => k_is); (case a8 => k_is); (case l8 => k_is)
    (case c8 => k_is); (case k8 => k_is); (case z_isinstance => k_is); (case z_len => k_is); (case z_list => k_is); (case z_ord => k_is)
    (case z_range => k_is); (case z_str => k_is); (case z_tuple => k_is); (case nt => kernel_rfl); (case td => kernel_rfl)


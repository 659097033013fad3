import PyProof.Rows.All
import Wide.All
import OpenK.AllK
import Wide.FinOn
import Lean
import PyProof.EqAt
import PyProof.EqKinds
import PyProof.TupleCall
import PyProof.P3In
import KE.KDictLaws
import PySem.Challenge.RW_rootstamp_k21_what_is_a_slip
set_option Elab.async false
set_option linter.all false
set_option maxRecDepth 100000
set_option maxHeartbeats 4000000
namespace L2
open PySem PySem.Spec PyProof.Rows

abbrev Key := Sum Int Str
def keyIs : Key → Value → Bool
  | .inl k, v => Value.isInt k v
  | .inr x, v => Value.isStrOf x v
def keyH (w : World) : Key → Int
  | .inl k => hashInt k
  | .inr x => hashStr w x
theorem keyIs_shape : ∀ {k : Key} {v : Value}, keyIs k v = true → (∃ i t, k = Sum.inl i ∧ v = Value.int i t) ∨ (∃ x t, k = Sum.inr x ∧ v = Value.str x t)
  | .inl i, v, h => by
    obtain ⟨t, e⟩ := Value.isInt_shape (k := i) (v := v) h
    exact .inl ⟨i, t, rfl, e⟩
  | .inr x, v, h => by
    obtain ⟨t, e⟩ := Value.isStrOf_shape (x := x) (v := v) h
    exact .inr ⟨x, t, rfl, e⟩
theorem keyIs_int (i : Int) (t : Tok) : keyIs (.inl i) (.int i t) = true := by simp [keyIs, Value.isInt]
theorem keyIs_str (x : Str) (t : Tok) : keyIs (.inr x) (.str x t) = true := by simp [keyIs, Value.isStrOf]
theorem key_ll (a b : Int) : decide ((Sum.inl a : Key) = Sum.inl b) = (a == b) := by
  by_cases e : a = b
  · subst e; simp
  · have h : ¬ (Sum.inl a : Key) = Sum.inl b := fun q => e (Sum.inl.inj q)
    rw [decide_eq_false h]
    exact (beq_eq_false_iff_ne.mpr e).symm
theorem key_rr (a b : Str) : decide ((Sum.inr a : Key) = Sum.inr b) = decide (a = b) := by
  by_cases e : a = b
  · subst e; simp
  · have h : ¬ (Sum.inr a : Key) = Sum.inr b := fun q => e (Sum.inr.inj q)
    rw [decide_eq_false h, decide_eq_false e]
theorem key_lr (a : Int) (b : Str) : decide ((Sum.inl a : Key) = Sum.inr b) = false := decide_eq_false (fun q => nomatch q)
theorem key_rl (a : Str) (b : Int) : decide ((Sum.inr a : Key) = Sum.inl b) = false := decide_eq_false (fun q => nomatch q)

def mixKind (prog : Program) (w : World) : PySem.KeyKind prog w Key where
  is := keyIs
  hash := keyH w
  inj := fun v a b ha hb => by
    rcases keyIs_shape ha with ⟨i, t, rfl, rfl⟩ | ⟨x, t, rfl, rfl⟩
    · rcases keyIs_shape hb with ⟨j, u, rfl, e⟩ | ⟨y, u, rfl, e⟩
      · injection e with e1 _; rw [e1]
      · exact nomatch e
    · rcases keyIs_shape hb with ⟨j, u, rfl, e⟩ | ⟨y, u, rfl, e⟩
      · exact nomatch e
      · injection e with e1 _; rw [e1]
  byValue := fun k v h => by
    rcases keyIs_shape h with ⟨i, t, rfl, rfl⟩ | ⟨x, t, rfl, rfl⟩ <;> rfl
  pyHash := fun hv h => by
    rcases keyIs_shape hv with ⟨i, t, rfl, rfl⟩ | ⟨x, t, rfl, rfl⟩
    · exact wpAny_pyHash_int h
    · exact wpAny_pyHash_str h
  eqBool := fun hu hv h => by
    rcases keyIs_shape hu with ⟨i, t, rfl, rfl⟩ | ⟨x, t, rfl, rfl⟩
    · rcases keyIs_shape hv with ⟨j, u, rfl, rfl⟩ | ⟨y, u, rfl, rfl⟩
      · rw [key_ll] at h; exact wpAny_eqBool_int h
      · rw [key_lr] at h; exact SeqAt.EqAt.int_str i t y u _ _ _ _ h
    · rcases keyIs_shape hv with ⟨j, u, rfl, rfl⟩ | ⟨y, u, rfl, rfl⟩
      · rw [key_rl] at h; exact SeqAt.EqAt.str_int x t j u _ _ _ _ h
      · rw [key_rr] at h; exact wpAny_eqBool_str h
  «strs» := fun k x t v h => by
    rcases keyIs_shape h with ⟨i, u, rfl, e⟩ | ⟨y, u, rfl, e⟩
    · exact nomatch e
    · injection e with e1 _
      subst e1
      cases v <;> rfl

theorem mixKind_int (prog : Program) (w : World) (i : Int) (t : Tok) : (mixKind prog w).is (.inl i) (.int i t) = true := keyIs_int i t
theorem mixKind_str (prog : Program) (w : World) (x : Str) (t : Tok) : (mixKind prog w).is (.inr x) (.str x t) = true := keyIs_str x t
end L2

namespace L2
open PySem PySem.Spec PyProof.Rows

inductive V where
  | non | bl (b : Bool) | int (i : Int) | str (x : Str) | byt (b : Array UInt8) | flt (b : UInt64) | ref (a : Addr) | ty (n : String)
  deriving DecidableEq

def RelV : V → Value → Prop
  | .non, u => u = Value.none
  | .bl b, u => u = Value.bool b
  | .int i, u => ∃ t, u = Value.int i t
  | .str x, u => ∃ t, u = Value.str x t
  | .byt b, u => ∃ t, u = Value.bytes b t
  | .flt b, u => ∃ t, u = Value.float b t
  | .ref a, u => u = Value.ref a
  | .ty n, u => u = Value.type n

abbrev Vals : List V → List Value → Prop := Paired RelV
theorem Vals.length {xs : List V} {us : List Value} (r : Vals xs us) : xs.length = us.length := Paired.length r
theorem Vals.get : ∀ {xs : List V} {us : List Value} {i : Nat} {x : V}, Vals xs us → xs[i]? = some x → ∃ u, us[i]? = some u ∧ RelV x u
  | _, _, _, _, .nil, e => by simp at e
  | _, _, 0, _, .cons r _, e => by simp at e; subst e; exact ⟨_, rfl, r⟩
  | _, _, i + 1, x, .cons _ t, e => by
    obtain ⟨u, h1, h2⟩ := Vals.get (i := i) (x := x) t (by simpa using e)
    exact ⟨u, by simpa using h1, h2⟩
theorem Vals.set {x : V} {u : Value} (r : RelV x u) : ∀ {xs : List V} {us : List Value} (i : Nat), Vals xs us → Vals (xs.set i x) (us.set i u)
  | _, _, _, .nil => .nil
  | _, _, 0, .cons _ t => .cons r t
  | _, _, i + 1, .cons q t => .cons q (Vals.set r i t)
theorem Vals.append : ∀ {xs ys : List V} {us ws : List Value}, Vals xs us → Vals ys ws → Vals (xs ++ ys) (us ++ ws)
  | _, _, _, _, .nil, s => s
  | _, _, _, _, .cons r t, s => .cons r (Vals.append t s)
theorem Vals.take : ∀ {xs : List V} {us : List Value} (n : Nat), Vals xs us → Vals (xs.take n) (us.take n)
  | _, _, 0, _ => .nil
  | _, _, _ + 1, .nil => .nil
  | _, _, n + 1, .cons r t => .cons r (Vals.take n t)
theorem Vals.drop : ∀ {xs : List V} {us : List Value} (n : Nat), Vals xs us → Vals (xs.drop n) (us.drop n)
  | _, _, 0, r => r
  | _, _, _ + 1, .nil => .nil
  | _, _, n + 1, .cons _ t => Vals.drop n t
theorem Vals.none_of : ∀ {xs : List V} {us : List Value} {i : Nat}, Vals xs us → xs[i]? = none → us[i]? = none := fun {xs us i} r e => by
  have h1 := r.length
  have h2 : xs.length ≤ i := List.getElem?_eq_none_iff.mp e
  exact List.getElem?_eq_none_iff.mpr (by omega)

def RelO : Option V → Option Value → Prop
  | some v, some u => RelV v u
  | none, none => True
  | _, _ => False
def KV {κ : Type} : List (κ × V) → List (κ × Value) → Prop := Paired fun (p : κ × V) (q : κ × Value) => p.1 = q.1 ∧ RelV p.2 q.2

def kV : Key → V
  | .inl i => .int i
  | .inr x => .str x

inductive HO where
  /-- a list -/
  | lst (xs : List V)
  /-- a tuple (never changes) -/
  | tup (xs : List V)
  /-- a dict whose keys are ints and texts; one whose keys are tuples of ints and texts (the empty one is both) -/
  | dK (kvs : List (Key × V)) | dT (kvs : List (List Key × V))
  /-- a set of ints: its members, its size -/
  | set (S : Int → Bool) (n : Nat)
  /-- an instance of the class at C, its dict at dx, its attributes -/
  | ins (C dx : Addr) (fs : List (Str × V))
  /-- the dict of the instance at x -/
  | own (x : Addr)
  /-- the dict of an exception -/
  | xd (fs : List (Str × V))
  /-- a bound method, f of x -/
  | met (f x : Addr)
  /-- a range object lo, lo + 1, .. below hi -/
  | rng (lo hi : Int)
  /-- a thing that is known to the object (the script; a dict while a loop walks it): read, never written while it is so -/
  | frz (o : Obj) (u : HO)
  /-- a code object's table -/
  | tbl (ps : Array Value)
  /-- any other thing, by what is true of its one object (a def of one's own: SetO a S n := HO.ext fun h => ..) -/
  | ext (φ : Heap → Prop)

abbrev Hp := Addr → Option HO
def upd (H : Hp) (a : Addr) (o : HO) : Hp := fun b => if b = a then some o else H b
theorem upd_same {H : Hp} {a : Addr} {o : HO} : upd H a o a = some o := by unfold upd; rw [if_pos rfl]
theorem upd_ne {H : Hp} {a b : Addr} {o : HO} (h : b ≠ a) : upd H a o b = H b := by unfold upd; rw [if_neg h]
theorem upd_upd {H : Hp} {a : Addr} {o u : HO} : upd (upd H a o) a u = upd H a u := by
  funext b; unfold upd; split <;> rfl
theorem ne_of {H : Hp} {a b : Addr} {o u : HO} (h : H a = some o) (h' : H b = some u) (d : o ≠ u) : a ≠ b := by
  intro e; subst e; rw [h] at h'; exact d (Option.some.inj h')
theorem ne_of_none {H : Hp} {a b : Addr} {o : HO} (h : H a = some o) (h' : H b = none) : a ≠ b := by
  intro e; subst e; rw [h] at h'; cases h'

section
variable (P : Program) (w : World)
def ObjOk (H : Hp) (h : Heap) (a : Addr) : HO → Prop
  | .lst xs => xs.length ≤ sizeLine ∧ ∃ (its : List Value) (n : Nat), Vals xs its ∧ h.get? a = some { cls := .type "list", data := .seq its.toArray n }
  | .tup xs => xs.length ≤ sizeLine ∧ ∃ its : List Value, Vals xs its ∧ IsTup h a its.toArray
  | .dK kvs => kvs.length ≤ sizeLine ∧ (a == sysModules) = false ∧ ∃ vs, KV kvs vs ∧ h.DictOf (mixKind P w) a vs
  | .dT kvs => kvs.length ≤ sizeLine ∧ (a == sysModules) = false ∧ ∃ xs : List (List Key × Addr × Value),
      Paired (fun (p : List Key × V) (q : List Key × Addr × Value) => p.1 = q.1 ∧ H q.2.1 = some (.tup (p.1.map kV)) ∧ RelV p.2 q.2.2) kvs xs ∧
      ∃ o es ep, h.get? a = some o ∧ o.ExactDict ∧ o.data = .dict es ep ∧ es.toList = xs.map (entryOfKey (tupleKind (mixKind P w))) ∧ (xs.map (·.1)).Nodup
  | .set S n => h.SetOf (intKind P w) a S n
  | .ins C dx fs => H dx = some (.own a) ∧ fs.length ≤ 1000 ∧ dx ≠ a ∧ h.get? a = some (PySem.W.instObj C dx) ∧
      ∃ mA, h.Ns1 dx mA ∧ (∀ f, RelO (fs.lookup f) (mA f)) ∧ PySem.Within mA (fs.map (·.1))
  | .own _ => ∃ o, h.get? a = some o
  | .xd fs => ∃ mA, h.Ns1 a mA ∧ ∀ f, RelO (fs.lookup f) (mA f)
  | .rng lo hi => ∃ t u v, h.get? a = some { cls := .type "range", data := .fields #[.int lo t, .int hi u, .int 1 v] }
  | .frz o u => h.get? a = some o ∧ ObjOk H h a u
  | .tbl ps => h.get? a = some { cls := .none, data := .fields ps }
  | .met f x => h.get? a = some (PySem.W.methodObj (.ref f) (.ref x))
  | .ext φ => φ h ∧ (∃ o, h.get? a = some o) ∧ ∀ h1 h2 : Heap, φ h1 → (∀ o, h1.get? a = some o → h2.get? a = some o) → φ h2
def HOk (H : Hp) (h : Heap) : Prop := ∀ a o, H a = some o → ObjOk P w H h a o
end

section
variable {P : Program} {w : World} {H H' : Hp} {h h' : Heap} {a : Addr} {o : HO}
theorem ObjOk.lt (x : ObjOk P w H h a o) : a < h.objs.size := by
  cases o with
  | lst xs => obtain ⟨_, _, _, _, e⟩ := x; exact Heap.lt_size e
  | tup xs => obtain ⟨_, _, _, p⟩ := x; exact p.lt
  | dK kvs => obtain ⟨_, _, _, _, o, _, _, e, _⟩ := x; exact Heap.lt_size e
  | dT kvs => obtain ⟨_, _, _, _, o, _, _, e, _⟩ := x; exact Heap.lt_size e
  | set S n => obtain ⟨o, _, _, _, e, _⟩ := x; exact Heap.lt_size e
  | ins C dx fs => obtain ⟨_, _, _, e, _⟩ := x; exact Heap.lt_size e
  | own y => obtain ⟨_, e⟩ := x; exact Heap.lt_size e
  | xd fs => obtain ⟨_, ⟨_, _, _, e, _⟩, _⟩ := x; exact Heap.lt_size e
  | rng lo hi => obtain ⟨_, _, _, e⟩ := x; exact Heap.lt_size e
  | frz ob u => obtain ⟨e, _⟩ := x; exact Heap.lt_size e
  | tbl ps => exact Heap.lt_size (show h.get? a = some _ from x)
  | met f y => exact Heap.lt_size (show h.get? a = some _ from x)
  | ext φ => obtain ⟨_, ⟨_, e⟩, _⟩ := x; exact Heap.lt_size e
theorem Paired.mapP {α β : Type} {F G : α → β → Prop} : ∀ {l₁ : List α} {l₂ : List β}, Paired F l₁ l₂ → (∀ a b, F a b → G a b) → Paired G l₁ l₂
  | _, _, .nil, _ => .nil
  | _, _, .cons r t, f => .cons (f _ _ r) (Paired.mapP t f)
theorem ObjOk.stay (x : ObjOk P w H h a o) (k : ∀ b u, (b = a ∨ H b = some (.own a)) → h.get? b = some u → h'.get? b = some u)
    (ho : ∀ b, H b = some (.own a) → H' b = some (.own a)) (ht : ∀ b xs, H b = some (.tup xs) → H' b = some (.tup xs)) : ObjOk P w H' h' a o := by
  induction o with
  | lst xs => obtain ⟨z, its, n, r, e⟩ := x; exact ⟨z, its, n, r, k _ _ (.inl rfl) e⟩
  | tup xs => obtain ⟨z, its, r, ob, e, c⟩ := x; exact ⟨z, its, r, ob, k _ _ (.inl rfl) e, c⟩
  | dK kvs => obtain ⟨z, y, vs, r, ob, es, ep, e, c⟩ := x; exact ⟨z, y, vs, r, ob, es, ep, k _ _ (.inl rfl) e, c⟩
  | dT kvs =>
    obtain ⟨z, y, xs, r, ob, es, ep, e, c⟩ := x
    exact ⟨z, y, xs, Paired.mapP r fun p q z => ⟨z.1, ht _ _ z.2.1, z.2.2⟩, ob, es, ep, k _ _ (.inl rfl) e, c⟩
  | set S n => obtain ⟨ob, es, ep, t, e, c⟩ := x; exact ⟨ob, es, ep, t, k _ _ (.inl rfl) e, c⟩
  | ins C dx fs =>
    obtain ⟨d, z, ne, e, mA, ⟨od, es, ep, e2, c⟩, r⟩ := x
    exact ⟨ho _ d, z, ne, k _ _ (.inl rfl) e, mA, ⟨od, es, ep, k _ _ (.inr d) e2, c⟩, r⟩
  | own y => obtain ⟨ob, e⟩ := x; exact ⟨ob, k _ _ (.inl rfl) e⟩
  | xd fs => obtain ⟨mA, ⟨od, es, ep, e, c⟩, r⟩ := x; exact ⟨mA, ⟨od, es, ep, k _ _ (.inl rfl) e, c⟩, r⟩
  | rng lo hi => obtain ⟨t, u, v, e⟩ := x; exact ⟨t, u, v, k _ _ (.inl rfl) e⟩
  | frz ob u ih => obtain ⟨e, q⟩ := x; exact ⟨k _ _ (.inl rfl) e, ih q⟩
  | tbl ps =>
    have e : h.get? a = some { cls := .none, data := .fields ps } := x
    show h'.get? a = some { cls := .none, data := .fields ps }
    exact k a _ (.inl rfl) e
  | met f y =>
    have e : h.get? a = some (PySem.W.methodObj (.ref f) (.ref y)) := x
    show h'.get? a = some (PySem.W.methodObj (.ref f) (.ref y))
    exact k a _ (.inl rfl) e
  | ext φ => obtain ⟨p, ⟨o, e⟩, st⟩ := x; exact ⟨st _ _ p fun o q => k _ _ (.inl rfl) q, ⟨o, k _ _ (.inl rfl) e⟩, st⟩
theorem HOk.lt (x : HOk P w H h) (e : H a = some o) : a < h.objs.size := (x a o e).lt
theorem HOk.fresh (x : HOk P w H h) (e : h.objs.size ≤ a) : H a = none := by
  cases q : H a with
  | none => rfl
  | some u => exact absurd (Nat.lt_of_lt_of_le (x.lt q) e) (Nat.lt_irrefl _)
theorem HOk.kept (x : HOk P w H h) (k : ∀ b u, h.get? b = some u → h'.get? b = some u) : HOk P w H h' := fun a o e =>
  (x a o e).stay (fun b u _ q => k b u q) (fun _ q => q) fun _ _ q => q
theorem HOk.laid (x : HOk P w H h) (k : ∀ b u, h.get? b = some u → h'.get? b = some u) (hp : h.objs.size ≤ a) (new : ObjOk P w (upd H a o) h' a o) : HOk P w (upd H a o) h' := fun b u e => by
  have hn := x.fresh hp
  by_cases hb : b = a
  · subst hb; rw [upd_same] at e; cases e; exact new
  · rw [upd_ne hb] at e
    exact (x b u e).stay (fun c v _ q => k c v q) (fun c q => by rw [upd_ne (ne_of_none q hn)]; exact q) fun c xs q => by rw [upd_ne (ne_of_none q hn)]; exact q
end

def Rd (H : Hp) (a : Addr) (u : HO) : Prop := H a = some u ∨ ∃ o, H a = some (.frz o u)
theorem Rd.of {H : Hp} {a : Addr} {u : HO} (h : H a = some u) : Rd H a u := .inl h
theorem Rd.ok {P : Program} {w : World} {H : Hp} {h : Heap} {a : Addr} {u : HO} (r : Rd H a u) (x : HOk P w H h) : ObjOk P w H h a u := by
  rcases r with r | ⟨o, r⟩
  · exact x a u r
  · obtain ⟨_, q⟩ := x a _ r
    exact q
def Mut : Option HO → Prop
  | some (.lst _) => True
  | some (.dK _) => True
  | some (.dT _) => True
  | some (.set _ _) => True
  | some (.ins _ _ _) => True
  | some (.ext _) => True
  | _ => False
section
variable {P : Program} {w : World} {H : Hp} {h h' : Heap} {x e : Addr} {o' : HO}
theorem HOk.write (ok : HOk P w H h) (mu : Mut (H x)) (he : e = x ∨ H e = some (.own x)) (k : ∀ b u, b ≠ e → h.get? b = some u → h'.get? b = some u) (heo : ∃ u, h'.get? e = some u)
    (new : ObjOk P w (upd H x o') h' x o') : HOk P w (upd H x o') h' := fun b u q => by
  have nown : ∀ c y, H c = some (.own y) → c ≠ x := fun c y r z => by subst z; rw [r] at mu; exact mu
  have ntup : ∀ c xs, H c = some (.tup xs) → c ≠ x := fun c xs r z => by subst z; rw [r] at mu; exact mu
  by_cases hb : b = x
  · subst hb; rw [upd_same] at q; cases q; exact new
  · rw [upd_ne hb] at q
    by_cases hbe : b = e
    · have q' : H b = some (.own x) := by
        rcases he with z | z
        · exact absurd (hbe.trans z) hb
        · rw [hbe]; exact z
      rw [q] at q'; cases q'
      obtain ⟨v, hv⟩ := heo
      exact ⟨v, by rw [hbe]; exact hv⟩
    · refine (ok b u q).stay (fun c v hc r => k c v ?_ r) (fun c r => by rw [upd_ne (nown c b r)]; exact r) fun c xs r => by rw [upd_ne (ntup c xs r)]; exact r
      rcases hc with rfl | hc
      · exact hbe
      · rintro rfl
        rcases he with z | z
        · exact nown c b hc z
        · rw [hc] at z; cases z; exact hb rfl
end

structure Un (fs ex : List Addr) (H H' : Hp) (h h' : Heap) : Prop where
  keep : ∀ b o, h.get? b = some o → H b = none → b ∉ fs → b ∉ ex → h'.get? b = some o
  slot : ∀ b o, h.get? b = some o → H b = none → b ∈ fs → b ∉ ex → ∃ sl, h'.get? b = some { o with slots := sl }
  free : ∀ b o, h.get? b = some o → H b = none → b ∉ ex → H' b = none
  there : ∀ b o, h.get? b = some o → b ∉ ex → ∃ o', h'.get? b = some o'
  tups : ∀ b xs, H b = some (.tup xs) → H' b = some (.tup xs)
  frzs : ∀ b o u, H b = some (.frz o u) → H' b = some (.frz o u)
  tbls : ∀ b ps, H b = some (.tbl ps) → ∃ more, H' b = some (.tbl (ps ++ more))
section
variable {fs fs' ex ex' : List Addr} {H H1 H2 : Hp} {h h1 h2 h' : Heap} {a x e : Addr} {o : HO}
theorem Un.any (u : Un fs ex H H1 h h1) {b : Addr} {ob : Obj} (q : h.get? b = some ob) (n : H b = none) (hx : b ∉ ex) : ∃ sl, h1.get? b = some { ob with slots := sl } := by
  by_cases hb : b ∈ fs
  · exact u.slot b ob q n hb hx
  · exact ⟨ob.slots, u.keep b ob q n hb hx⟩
theorem Un.trans (a : Un fs ex H H1 h h1) (b : Un fs ex H1 H2 h1 h2) : Un fs ex H H2 h h2 where
  keep := fun c ob q n hc hx => b.keep c ob (a.keep c ob q n hc hx) (a.free c ob q n hx) hc hx
  slot := fun c ob q n hc hx => by
    obtain ⟨sl, e1⟩ := a.slot c ob q n hc hx
    obtain ⟨sl', e2⟩ := b.slot c _ e1 (a.free c ob q n hx) hc hx
    exact ⟨sl', e2⟩
  free := fun c ob q n hx => by
    obtain ⟨o', e1⟩ := a.there c ob q hx
    exact b.free c o' e1 (a.free c ob q n hx) hx
  there := fun c ob q hx => by
    obtain ⟨o', e1⟩ := a.there c ob q hx
    exact b.there c o' e1 hx
  tups := fun c xs q => b.tups c xs (a.tups c xs q)
  frzs := fun c ob xs q => b.frzs c ob xs (a.frzs c ob xs q)
  tbls := fun c ps q => by
    obtain ⟨m1, e1⟩ := a.tbls c ps q
    obtain ⟨m2, e2⟩ := b.tbls c _ e1
    exact ⟨m1 ++ m2, by rw [e2, Array.append_assoc]⟩
theorem Un.kept (k : ∀ b u, h.get? b = some u → h'.get? b = some u) : Un fs ex H H h h' :=
  ⟨fun b ob q _ _ _ => k b ob q, fun b ob q _ _ _ => ⟨ob.slots, k b ob q⟩, fun _ _ _ n _ => n, fun b ob q _ => ⟨ob, k b ob q⟩, fun _ _ q => q, fun _ _ _ q => q, fun _ ps q => ⟨#[], by rw [q]; simp⟩⟩
theorem Un.refl : Un fs ex H H h h := Un.kept fun _ _ q => q
theorem Un.laid (k : ∀ b u, h.get? b = some u → h'.get? b = some u) (hp : h.objs.size ≤ a) (hn : H a = none) : Un fs ex H (upd H a o) h h' where
  keep := fun b u q _ _ _ => k b u q
  slot := fun b u q _ _ _ => ⟨u.slots, k b u q⟩
  free := fun b u q n _ => by rw [upd_ne (Nat.ne_of_lt (Nat.lt_of_lt_of_le (Heap.lt_size q) hp))]; exact n
  there := fun b u q _ => ⟨u, k b u q⟩
  tups := fun b xs q => by rw [upd_ne (ne_of_none q hn)]; exact q
  frzs := fun b u xs q => by rw [upd_ne (ne_of_none q hn)]; exact q
  tbls := fun b ps q => ⟨#[], by rw [upd_ne (ne_of_none q hn), q]; simp⟩
theorem Un.write (mu : Mut (H x)) (he : e = x ∨ H e = some (.own x)) (k : ∀ b u, b ≠ e → h.get? b = some u → h'.get? b = some u) (heo : ∃ u, h'.get? e = some u) : Un fs ex H (upd H x o) h h' := by
  have hx : ∀ b, H b = none → b ≠ x := fun b n z => by subst z; rw [n] at mu; exact mu
  have hb : ∀ b, H b = none → b ≠ e := fun b n z => by
    subst z
    rcases he with r | r
    · exact hx b n r
    · rw [n] at r; cases r
  have hm : ∀ b u, H b = some u → ¬ Mut (some u) → b ≠ x := fun b u q nm z => by subst z; rw [q] at mu; exact nm mu
  refine ⟨fun b u q n _ _ => k b u (hb b n) q, fun b u q n _ _ => ⟨u.slots, k b u (hb b n) q⟩, fun b u q n _ => by rw [upd_ne (hx b n)]; exact n, fun b u q _ => ?_,
    fun b xs q => by rw [upd_ne (hm b _ q fun z => z)]; exact q, fun b u xs q => by rw [upd_ne (hm b _ q fun z => z)]; exact q, fun b ps q => ⟨#[], by rw [upd_ne (hm b _ q fun z => z), q]; simp⟩⟩
  by_cases hbe : b = e
  · subst hbe; exact heo
  · exact ⟨u, k b u hbe q⟩
theorem Un.mono (u : Un fs ex H H1 h h1) (hs : ∀ b ∈ fs, b ∈ fs') (hx : ∀ b ∈ ex, b ∈ ex') : Un fs' ex' H H1 h h1 :=
  ⟨fun b ob q n hb he => u.keep b ob q n (fun z => hb (hs b z)) fun z => he (hx b z), fun _ _ q n _ he => u.any q n fun z => he (hx _ z), fun b ob q n he => u.free b ob q n fun z => he (hx b z), fun b ob q he => u.there b ob q fun z => he (hx b z), u.tups, u.frzs, u.tbls⟩
end

def trk (h : Heap) (H : Hp) : List Addr := (List.range h.objs.size).filter fun a => (H a).isSome
def hidT (h : Heap) (H : Hp) : Heap := PySem.W.hideAll h (trk h H)
theorem hidT_size (h : Heap) (H : Hp) : (hidT h H).objs.size = h.objs.size := PySem.W.hideAll_size _ _
theorem hidT_get {h : Heap} {H : Hp} {b : Addr} {o : Obj} (e : h.get? b = some o) (n : H b = none) : (hidT h H).get? b = some o :=
  PySem.W.hideAll_get _ e fun hm => by
    have q : (H b).isSome = true := (List.mem_filter.mp hm).2
    rw [n] at q; simp at q
theorem of_hidT {h : Heap} {H : Hp} {b : Addr} {o : Obj} (e : (hidT h H).get? b = some o) : h.get? b = some o ∧ H b = none := by
  have e' : h.get? b = some o := PySem.W.of_hideAll (trk h H) e
  refine ⟨e', ?_⟩
  cases q : H b with
  | none => rfl
  | some x =>
    have hm : b ∈ trk h H := List.mem_filter.mpr ⟨List.mem_range.mpr (Heap.lt_size e'), by simp [q]⟩
    have z : (hidT h H).get? b = none := PySem.W.hideAll_none (trk h H) hm
    rw [z] at e; cases e

def allNews (g h : Heap) (L : Addr) : List (Addr × Obj) := (List.range h.objs.size).filterMap fun a => if a = L ∨ (g.get? a).isSome = true then none else (h.get? a).map fun o => (a, o)
def rest (g h : Heap) (L d : Addr) : List (Addr × Obj) := (allNews g h L).filter fun p => decide (p.1 ≠ d)
end L2

namespace L2
open PySem PySem.Spec PyProof.Rows

structure Mod (K : PySem.W.Frag) (mg : Str → Option Value) (base : Heap) : Prop where
  kin : K.In base
  glob : base.Ns mainGlobals mg
  blt : ∃ mb, base.Ns builtinsNs mb ∧ ∀ x : Str, x ≠ "__name__" → mb x = bootBuiltins x
  nolimit : base.NoLimit

structure Cx where
  prog : Program
  w : World
  K : PySem.W.Frag
  mg : Str → Option Value
  base : Heap
  A : Around
  N : List Str
  s₀ : Shared
  H₀ : Hp
  env : Env
  outer : List Env
  stack : List Env
  ex : List Addr
  fn : Str → Bool
  calm : Bool
  pn : List (Addr × Obj)
  xe : Value → Shared → Prop
def frs (l : List Env) : List Addr := l.filterMap (·.frame)
abbrev Cx.fs (X : Cx) : List Addr := frs X.outer

def Vis (sc : Scope) (x : Str) : Prop := sc.names.lookup x = some .local ∨ sc.names.lookup x = some .cell ∨ sc.names.lookup x = some .free
def Loc (sc : Scope) (x : Str) : Prop := sc.names.lookup x = some .local ∨ sc.names.lookup x = some .cell
def Look (env : Env) (h : Heap) (m : Str → Option Value) (x : Str) (u : Value) : Prop :=
  (env.kindOf x = some .local ∧ m x = some u) ∨ ((env.kindOf x = some .cell ∨ env.kindOf x = some .free) ∧ ∃ c, env.cells.lookup x = some c ∧ h.IsCell c (some u))

structure Cx.Ok (X : Cx) : Prop where
  mod : Mod X.K X.mg X.base
  kind : X.env.scope.kind = .function
  glob : X.env.globals = mainGlobals
  blt : X.env.builtins = builtinsNs
  above : X.s₀.heap.objs.size ≤ X.env.locals
  inj : ∀ x y c, X.env.cells.lookup x = some c → X.env.cells.lookup y = some c → x = y
  has : ∀ x, (X.env.kindOf x = some .cell ∨ X.env.kindOf x = some .free) → ∃ c, X.env.cells.lookup x = some c
  cab : ∀ x c, X.fn x = true → X.env.cells.lookup x = some c → X.s₀.heap.objs.size ≤ c
  hd : X.calm = true → X.A.handled = none
  frames : X.A.frames = some X.stack
  stk : X.stack = X.outer ∨ (X.stack = X.env :: X.outer ∧ X.env.frame = some X.env.locals)
  exf : ∀ b ∈ X.ex, b ≠ X.env.locals ∧ ∀ x c, X.env.cells.lookup x = some c → c ≠ b
  bs : ∀ b o, X.base.get? b = some o → X.s₀.heap.get? b = some o ∧ X.H₀ b = none
  bsz : X.base.objs.size ≤ X.s₀.heap.objs.size
  noex : ∀ b o, X.base.get? b = some o → b ∉ X.ex
  exfs : ∀ b ∈ X.ex, b ∉ X.fs
  funs : X.s₀.heap.FunFrames X.base X.outer
  frf : ∀ b ∈ X.fs, X.H₀ b = none

structure Inv (X : Cx) (pins : List (Addr × Obj)) (σ : List (Option V)) (H : Hp) (s : Shared) : Prop where
  ok : X.Ok
  os : s.os = X.s₀.os
  bare : AllBare s.gens
  base : Un X.fs X.ex X.H₀ H X.s₀.heap s.heap
  loc : ∃ m, s.heap.Ns X.env.locals m ∧ ∀ (i : Nat) (x : Str) (v : V), X.N[i]? = some x → σ[i]? = some (some v) → Vis X.env.scope x → ∃ u, RelV v u ∧ Look X.env s.heap m x u
  cell : ∀ x c, X.env.cells.lookup x = some c → ∃ v, s.heap.IsCell c v
  free : H X.env.locals = none
  freeC : ∀ x c, X.env.cells.lookup x = some c → H c = none
  pin : ∀ p ∈ X.pn ++ pins, s.heap.get? p.1 = some p.2 ∧ H p.1 = none ∧ p.1 ≠ X.env.locals ∧ p.1 ∉ X.fs ∧ ∀ v, p.2.data ≠ .cell v
  hok : HOk X.prog X.w H s.heap
  len : σ.length = X.N.length

section
variable {X : Cx} {pins : List (Addr × Obj)} {σ : List (Option V)} {H H' : Hp} {s : Shared} {h' : Heap}

theorem Cx.Ok.nofr (ok : X.Ok) {b : Addr} {o : Obj} (e : X.base.get? b = some o) : b ∉ X.fs := fun hb => by
  have := (ok.funs.mem hb).1
  rw [e] at this; cases this
theorem Inv.bs (I : Inv X pins σ H s) : ∀ b o, X.base.get? b = some o → s.heap.get? b = some o ∧ H b = none := fun b o e =>
  ⟨I.base.keep b o (I.ok.bs b o e).1 (I.ok.bs b o e).2 (I.ok.nofr e) (I.ok.noex b o e), I.base.free b o (I.ok.bs b o e).1 (I.ok.bs b o e).2 (I.ok.noex b o e)⟩
theorem Inv.bk (I : Inv X pins σ H s) : ∀ b o, X.base.get? b = some o → s.heap.get? b = some o := fun b o e => (I.bs b o e).1
theorem Inv.mod (I : Inv X pins σ H s) : Mod X.K X.mg X.base := I.ok.mod
theorem Inv.kIn (I : Inv X pins σ H s) : X.K.In s.heap := I.ok.mod.kin.keeps I.bk
theorem Inv.nolimit (I : Inv X pins σ H s) : s.heap.NoLimit := I.ok.mod.nolimit.keeps I.bk
theorem Inv.fr (I : Inv X pins σ H s) : ∃ m, Fr X.base X.env.locals s.heap m :=
  let ⟨m, hn, _⟩ := I.loc
  ⟨m, hn, I.bk, Nat.le_trans I.ok.bsz I.ok.above⟩
theorem Inv.lt (I : Inv X pins σ H s) : X.env.locals < s.heap.objs.size := let ⟨_, hn, _⟩ := I.loc; hn.lt
theorem Inv.sz (I : Inv X pins σ H s) : X.s₀.heap.objs.size ≤ s.heap.objs.size := Nat.le_trans I.ok.above (Nat.le_of_lt I.lt)
theorem Inv.nofs (I : Inv X pins σ H s) {a : Addr} (h : s.heap.objs.size ≤ a) : a ∉ X.fs := fun hb => by
  obtain ⟨_, o, ho, _⟩ := I.ok.funs.mem hb
  exact absurd (Nat.lt_of_lt_of_le (Heap.lt_size ho) (Nat.le_trans I.sz h)) (Nat.lt_irrefl _)
theorem Inv.cne (I : Inv X pins σ H s) : ∀ x c, X.env.cells.lookup x = some c → c ≠ X.env.locals := fun x c e z => by
  obtain ⟨v, o, ho, hd⟩ := I.cell x c e
  obtain ⟨m, ⟨o', es, ep, ho', hd', _⟩, _⟩ := I.loc
  rw [z, ho'] at ho; cases ho; rw [hd'] at hd; cases hd
theorem Inv.funs (I : Inv X pins σ H s) : s.heap.FunFrames X.base X.outer := by
  have all : ∀ (l : List Env), (∀ b ∈ frs l, b ∈ X.fs) → X.s₀.heap.FunFrames X.base l → s.heap.FunFrames X.base l := by
    intro l
    induction l with
    | nil => intro _ _; trivial
    | cons env r ih =>
      intro hs hl
      obtain ⟨hk, ⟨L, o, hf, hn, ho, hd⟩, hr⟩ := hl
      have hL : L ∈ X.fs := hs L (by unfold frs; rw [List.filterMap_cons, hf]; exact List.mem_cons_self)
      obtain ⟨sl, e⟩ := I.base.slot L o ho (I.ok.frf L hL) hL fun z => I.ok.exfs L z hL
      exact ⟨hk, ⟨L, _, hf, hn, e, hd⟩, ih (fun b hb => hs b (by unfold frs; rw [List.filterMap_cons, hf]; exact List.mem_cons_of_mem _ hb)) hr⟩
  exact all X.outer (fun _ hb => hb) I.ok.funs

theorem Inv.stack (I : Inv X pins σ H s) : s.heap.FunFrames X.base X.stack := by
  rcases I.ok.stk with e | ⟨e, hf⟩
  · rw [e]; exact I.funs
  · rw [e]
    obtain ⟨m, hn, _⟩ := I.loc
    refine .cons (by rw [I.ok.kind]; decide) hf hn ?_ I.funs
    exact Heap.get?_none_of_le (Nat.le_trans I.ok.bsz I.ok.above)
theorem Inv.stkSub (I : Inv X pins σ H s) : ∀ b ∈ frs X.stack, b ∈ X.env.locals :: X.fs := fun b hb => by
  rcases I.ok.stk with e | ⟨e, hf⟩
  · rw [e] at hb; exact List.mem_cons_of_mem _ hb
  · rw [e] at hb
    unfold frs at hb
    rw [List.filterMap_cons, hf] at hb
    exact hb
theorem Inv.stkFree (I : Inv X pins σ H s) : ∀ b ∈ frs X.stack, H b = none := fun b hb => by
  rcases List.mem_cons.mp (I.stkSub b hb) with e | hb
  · rw [e]; exact I.free
  · obtain ⟨_, o, ho, _⟩ := I.ok.funs.mem hb
    exact I.base.free b o ho (I.ok.frf b hb) fun z => I.ok.exfs b z hb

theorem Inv.step {g' : Array GenState} {t' : Nat} {d' : Drawn} {ch : List Addr} (I : Inv X pins σ H s)
    (hch : ∀ b ∈ ch, (b ∈ X.ex ∨ X.s₀.heap.objs.size ≤ b) ∧ b ≠ X.env.locals ∧ (∀ x c, X.env.cells.lookup x = some c → c ≠ b) ∧ ∀ p ∈ X.pn ++ pins, p.1 ≠ b)
    (keep : ∀ b o, b ≠ X.env.locals → b ∉ X.fs → b ∉ ch → s.heap.get? b = some o → H b = none → h'.get? b = some o)
    (slot : ∀ b o, b ≠ X.env.locals → b ∈ X.fs → b ∉ ch → s.heap.get? b = some o → H b = none → ∃ sl, h'.get? b = some { o with slots := sl }) (free : ∀ b o, b ∉ ch → s.heap.get? b = some o → H b = none → H' b = none)
    (there : ∀ b o, b ∉ ch → s.heap.get? b = some o → ∃ o', h'.get? b = some o')
    (tups : ∀ b xs, H b = some (.tup xs) → H' b = some (.tup xs)) (frzs : ∀ b o u, H b = some (.frz o u) → H' b = some (.frz o u)) (tbls : ∀ b ps, H b = some (.tbl ps) → ∃ more, H' b = some (.tbl (ps ++ more)))
    (ns : ∀ m, s.heap.Ns X.env.locals m → h'.Ns X.env.locals m) (hok : HOk X.prog X.w H' h') (hg : AllBare g') :
    Inv X pins σ H' { s with heap := h', gens := g', drawn := d', toks := t' } := by
  have neL : ∀ b o, X.s₀.heap.get? b = some o → b ≠ X.env.locals := fun b o e => Nat.ne_of_lt (Nat.lt_of_lt_of_le (Heap.lt_size e) I.ok.above)
  have neC : ∀ b o, X.s₀.heap.get? b = some o → b ∉ X.ex → b ∉ ch := fun b o e hx hb => by
    rcases (hch b hb).1 with z | z
    · exact hx z
    · exact absurd (Nat.lt_of_lt_of_le (Heap.lt_size e) z) (Nat.lt_irrefl _)
  have cellK : ∀ x c, X.env.cells.lookup x = some c → ∀ v, s.heap.IsCell c v → h'.IsCell c v := fun x c e v ⟨o, ho, hd⟩ => by
    have nch : c ∉ ch := fun z => (hch c z).2.2.1 x c e rfl
    by_cases hc : c ∈ X.fs
    · obtain ⟨sl, q⟩ := slot c o (I.cne x c e) hc nch ho (I.freeC x c e)
      exact ⟨_, q, hd⟩
    · exact ⟨o, keep c o (I.cne x c e) hc nch ho (I.freeC x c e), hd⟩
  refine ⟨I.ok, I.os, hg, ⟨fun b o e n hb hx => ?_, fun b o e n hb hx => ?_, fun b o e n hx => ?_, fun b o e hx => ?_, fun b xs e => tups b xs (I.base.tups b xs e), fun b o xs e => frzs b o xs (I.base.frzs b o xs e), fun b ps e => ?_⟩, ?_, fun x c e => ?_, ?_, fun x c e => ?_, fun p hp => ?_, hok, I.len⟩
  · exact keep b o (neL b o e) hb (neC b o e hx) (I.base.keep b o e n hb hx) (I.base.free b o e n hx)
  · obtain ⟨sl, e1⟩ := I.base.slot b o e n hb hx
    obtain ⟨sl', e2⟩ := slot b _ (neL b o e) hb (neC b o e hx) e1 (I.base.free b o e n hx)
    exact ⟨sl', e2⟩
  · obtain ⟨o', e1⟩ := I.base.there b o e hx
    exact free b o' (neC b o e hx) e1 (I.base.free b o e n hx)
  · obtain ⟨o', e1⟩ := I.base.there b o e hx
    exact there b o' (neC b o e hx) e1
  · obtain ⟨m1, e1⟩ := I.base.tbls b ps e
    obtain ⟨m2, e2⟩ := tbls b _ e1
    exact ⟨m1 ++ m2, by rw [e2, Array.append_assoc]⟩
  · obtain ⟨m, hn, hl⟩ := I.loc
    refine ⟨m, ns m hn, fun i x v e1 e2 e3 => ?_⟩
    obtain ⟨u, r, l⟩ := hl i x v e1 e2 e3
    refine ⟨u, r, ?_⟩
    rcases l with l | ⟨k, c, e, z⟩
    · exact .inl l
    · exact .inr ⟨k, c, e, cellK x c e _ z⟩
  · obtain ⟨v, z⟩ := I.cell x c e
    exact ⟨v, cellK x c e v z⟩
  · obtain ⟨m, ⟨o, _, _, ho, _⟩, _⟩ := I.loc
    exact free _ o (fun z => (hch _ z).2.1 rfl) ho I.free
  · obtain ⟨v, o, ho, hd⟩ := I.cell x c e
    exact free c o (fun z => (hch c z).2.2.1 x c e rfl) ho (I.freeC x c e)
  · obtain ⟨e, n, ne, nf, d⟩ := I.pin p hp
    have nch : p.1 ∉ ch := fun z => (hch p.1 z).2.2.2 p hp rfl
    exact ⟨keep p.1 p.2 ne nf nch e n, free p.1 p.2 nch e n, ne, nf, d⟩
theorem Inv.un {t' : Nat} (I : Inv X pins σ H s) (u : Un X.fs [] H H' s.heap h') (hok : HOk X.prog X.w H' h') : Inv X pins σ H' { s with heap := h', toks := t' } := by
  obtain ⟨m, ⟨o, es, ep, ho, r⟩, _⟩ := id I.loc
  obtain ⟨sl, hL⟩ := u.any ho I.free (by simp)
  exact I.step (g' := s.gens) (d' := s.drawn) (ch := []) (fun _ z => nomatch z) (fun b o _ hb _ e n => u.keep b o e n hb (by simp)) (fun b o _ hb _ e n => u.slot b o e n hb (by simp)) (fun b o _ e n => u.free b o e n (by simp)) (fun b o _ e => u.there b o e (by simp)) u.tups u.frzs u.tbls (fun m' hm => by
    obtain ⟨o', es', ep', ho', r'⟩ := hm
    rw [ho] at ho'; cases ho'
    exact ⟨_, es', ep', hL, r'⟩) hok I.bare
theorem Inv.call {g' : Array GenState} {t' : Nat} {d' : Drawn} {ch : List Addr} (I : Inv X pins σ H s) (u : Un (frs X.stack) ch H H' s.heap h') (hok : HOk X.prog X.w H' h') (hg : AllBare g')
    (hch : ∀ b ∈ ch, (b ∈ X.ex ∨ X.s₀.heap.objs.size ≤ b) ∧ b ≠ X.env.locals ∧ (∀ x c, X.env.cells.lookup x = some c → c ≠ b) ∧ ∀ p ∈ X.pn ++ pins, p.1 ≠ b) :
    Inv X pins σ H' { s with heap := h', gens := g', drawn := d', toks := t' } := by
  obtain ⟨m, ⟨o, es, ep, ho, r⟩, _⟩ := id I.loc
  obtain ⟨sl, hL⟩ := u.any ho I.free fun z => (hch _ z).2.1 rfl
  exact I.step (ch := ch) hch (fun b o hL hb hc e n => u.keep b o e n (fun z => (List.mem_cons.mp (I.stkSub b z)).elim hL hb) hc) (fun b o _ _ hc e n => u.any e n hc) (fun b o hc e n => u.free b o e n hc) (fun b o hc e => u.there b o e hc) u.tups u.frzs u.tbls (fun m' hm => by
    obtain ⟨o', es', ep', ho', r'⟩ := hm
    rw [ho] at ho'; cases ho'
    exact ⟨_, es', ep', hL, r'⟩) hok hg
theorem Inv.turned {t' : Nat} {it : Addr} (I : Inv X pins σ H s) (k : ∀ b o, b ≠ it → s.heap.get? b = some o → h'.get? b = some o) (hn : H it = none) (hL : it ≠ X.env.locals)
    (h1 : it ∈ X.ex ∨ X.s₀.heap.objs.size ≤ it) (h2 : ∀ x c, X.env.cells.lookup x = some c → c ≠ it) (h3 : ∀ p ∈ X.pn ++ pins, p.1 ≠ it) : Inv X pins σ H { s with heap := h', toks := t' } := by
  have nit : ∀ b u, H b = some u → b ≠ it := fun b u e z => by rw [z, hn] at e; cases e
  refine I.step (g' := s.gens) (d' := s.drawn) (ch := [it]) (fun b hb => ?_) (fun b o _ _ hc e _ => k b o (fun z => hc (by simp [z])) e) (fun b o _ _ hc e _ => ⟨o.slots, k b o (fun z => hc (by simp [z])) e⟩) (fun _ _ _ _ n => n)
    (fun b o hc e => ⟨o, k b o (fun z => hc (by simp [z])) e⟩) (fun _ _ e => e) (fun _ _ _ e => e) (fun b ps e => ⟨#[], by rw [e]; simp⟩) (fun m hm => ?_) (fun b u e => ?_) I.bare
  · have e : b = it := by simpa using hb
    subst e
    exact ⟨h1, hL, h2, h3⟩
  · obtain ⟨o, es, ep, ho, r⟩ := hm
    exact ⟨o, es, ep, k _ o (Ne.symm hL) ho, r⟩
  · refine (I.hok b u e).stay (fun c v hc q => k c v ?_ q) (fun _ q => q) fun _ _ q => q
    rcases hc with z | z
    · rw [z]; exact nit b u e
    · exact nit c _ z
theorem Inv.tok (I : Inv X pins σ H s) (t : Nat) : Inv X pins σ H { s with toks := t } := I.un (h' := s.heap) (t' := t) Un.refl I.hok
theorem Inv.kept {t' : Nat} (I : Inv X pins σ H s) (k : ∀ b u, s.heap.get? b = some u → h'.get? b = some u) : Inv X pins σ H { s with heap := h', toks := t' } := I.un (Un.kept k) (I.hok.kept k)
theorem Inv.laid {a : Addr} {o : HO} {t' : Nat} (I : Inv X pins σ H s) (k : ∀ b u, s.heap.get? b = some u → h'.get? b = some u) (hp : s.heap.objs.size ≤ a) (new : ObjOk X.prog X.w (upd H a o) h' a o) :
    Inv X pins σ (upd H a o) { s with heap := h', toks := t' } := I.un (Un.laid k hp (I.hok.fresh hp)) (I.hok.laid k hp new)
theorem Inv.write {x e : Addr} {o : HO} {t' : Nat} (I : Inv X pins σ H s) (mu : Mut (H x)) (he : e = x ∨ H e = some (.own x)) (k : ∀ b u, b ≠ e → s.heap.get? b = some u → h'.get? b = some u) (heo : ∃ u, h'.get? e = some u)
    (new : ObjOk X.prog X.w (upd H x o) h' x o) : Inv X pins σ (upd H x o) { s with heap := h', toks := t' } := I.un (Un.write mu he k heo) (I.hok.write mu he k heo new)
theorem Inv.pins_of {pins' : List (Addr × Obj)} (I : Inv X pins σ H s) (h : ∀ p ∈ pins', s.heap.get? p.1 = some p.2 ∧ H p.1 = none ∧ p.1 ≠ X.env.locals ∧ p.1 ∉ X.fs ∧ ∀ v, p.2.data ≠ .cell v) : Inv X pins' σ H s :=
  ⟨I.ok, I.os, I.bare, I.base, I.loc, I.cell, I.free, I.freeC, fun p hp => (List.mem_append.mp hp).elim (fun z => I.pin p (List.mem_append_left _ z)) (h p), I.hok, I.len⟩

theorem nodup_ix {N : List Str} (hN : N.Nodup) {i j : Nat} {x : Str} (a : N[i]? = some x) (b : N[j]? = some x) : i = j := by
  obtain ⟨h1, e1⟩ := List.getElem?_eq_some_iff.mp a
  obtain ⟨h2, e2⟩ := List.getElem?_eq_some_iff.mp b
  exact (List.getElem_inj hN).mp (e1.trans e2.symm)

theorem store_ok2 {M : Model} {A : Around} {E : Value → Shared → Prop} {i : Nat} {x : Str} {v : V} {u : Value} {Q : Unit → Shared → Prop} (I : Inv X pins σ H s) (hN : X.N.Nodup) (hi : X.N[i]? = some x) (hx : Loc X.env.scope x) (r : RelV v u)
    (h : ∀ s', Inv X pins (σ.set i (some v)) H s' → (∃ a, Heap.SameBut a s.heap s'.heap ∧ (a = X.env.locals ∨ X.env.cells.lookup x = some a)) → Q () s') (hf : X.fn x = true ∨ X.env.scope.names.lookup x = some .local := by first | exact .inl rfl | exact .inr rfl | assumption) : wpAny M A (storeName X.env x u) Q E s := by
  obtain ⟨m, hn, hl⟩ := id I.loc
  have hcls : (X.env.scope.kind == .class || (X.env.scope.kind == .module && X.env.locals != X.env.globals)) = false := by rw [I.ok.kind]; rfl
  have hiσ : i < σ.length := by rw [I.len]; exact (List.getElem?_eq_some_iff.mp hi).1
  have cne := I.cne
  have tracked : ∀ {a : Addr} {h' : Heap}, (∃ o, s.heap.get? a = some o ∧ H a = none) → Heap.SameBut a s.heap h' → HOk X.prog X.w H h' := fun {a h'} ha hs b ob e => by
    obtain ⟨_, _, hfree⟩ := ha
    refine (I.hok b ob e).stay (fun c w' hc q => (hs.2 c ?_).trans q) (fun _ q => q) fun _ _ q => q
    rintro rfl
    rcases hc with rfl | hc
    · rw [hfree] at e; cases e
    · rw [hfree] at hc; cases hc
  rcases hx with hk | hk
  · refine wpAny_storeName_local hk hn (fun h' hn' hs => ?_) hcls
    obtain ⟨oL, _, _, hoL, _⟩ := id hn
    refine h _ ⟨I.ok, I.os, I.bare, ⟨fun b o e n hb hx => ?_, fun b o e n hb hx => ?_, I.base.free, fun b o e hx => ?_, I.base.tups, I.base.frzs, I.base.tbls⟩, ⟨_, hn', fun j y v' e1 e2 e3 => ?_⟩, fun y c e => ?_, I.free, I.freeC, fun p hp => ?_, tracked ⟨oL, hoL, I.free⟩ hs, by simpa using I.len⟩ ⟨_, hs, .inl rfl⟩
    · exact (hs.2 b (Nat.ne_of_lt (Nat.lt_of_lt_of_le (Heap.lt_size e) I.ok.above))).trans (I.base.keep b o e n hb hx)
    · obtain ⟨sl, e1⟩ := I.base.slot b o e n hb hx
      exact ⟨sl, (hs.2 b (Nat.ne_of_lt (Nat.lt_of_lt_of_le (Heap.lt_size e) I.ok.above))).trans e1⟩
    · obtain ⟨o', e1⟩ := I.base.there b o e hx
      exact ⟨o', (hs.2 b (Nat.ne_of_lt (Nat.lt_of_lt_of_le (Heap.lt_size e) I.ok.above))).trans e1⟩
    · by_cases hj : j = i
      · subst hj
        rw [hi] at e1; cases e1
        rw [List.getElem?_set_self hiσ] at e2
        cases e2
        exact ⟨u, r, .inl ⟨hk, by simp⟩⟩
      · rw [List.getElem?_set_ne (Ne.symm hj)] at e2
        obtain ⟨u', r', q⟩ := hl j y v' e1 e2 e3
        refine ⟨u', r', ?_⟩
        rcases q with ⟨k, e⟩ | ⟨k, c, e, z⟩
        · refine .inl ⟨k, ?_⟩
          have : y ≠ x := fun e => hj (nodup_ix hN e1 (e ▸ hi))
          simp [this, e]
        · exact .inr ⟨k, c, e, z.sameBut hs (cne y c e)⟩
    · obtain ⟨w', z⟩ := I.cell y c e
      exact ⟨w', z.sameBut hs (cne y c e)⟩
    · obtain ⟨e, n, ne, nf, d⟩ := I.pin p hp
      exact ⟨(hs.2 p.1 ne).trans e, n, ne, nf, d⟩
  · have hfn : X.fn x = true := by
      rcases hf with z | z
      · exact z
      · rw [z] at hk; cases hk
    obtain ⟨c, hc⟩ := I.ok.has x (.inl hk)
    obtain ⟨w', z⟩ := I.cell x c hc
    refine wpAny_storeName_cell I.ok.kind hk hc z (fun h' hc' hs => ?_)
    obtain ⟨oc, hoc, hocd⟩ := id z
    refine h { s with heap := h' } ⟨I.ok, I.os, I.bare, ⟨fun b o e n hb hx => ?_, fun b o e n hb hx => ?_, I.base.free, fun b o e hx => ?_, I.base.tups, I.base.frzs, I.base.tbls⟩, ⟨m, hn.sameBut hs (Ne.symm (cne x c hc)), fun j y v' e1 e2 e3 => ?_⟩, fun y c' e => ?_, I.free, I.freeC, fun p hp => ?_, tracked ⟨oc, hoc, I.freeC x c hc⟩ hs, by simpa using I.len⟩ ⟨c, hs, .inr hc⟩
    · exact (hs.2 b (Nat.ne_of_lt (Nat.lt_of_lt_of_le (Heap.lt_size e) (I.ok.cab x c hfn hc)))).trans (I.base.keep b o e n hb hx)
    · obtain ⟨sl, e1⟩ := I.base.slot b o e n hb hx
      exact ⟨sl, (hs.2 b (Nat.ne_of_lt (Nat.lt_of_lt_of_le (Heap.lt_size e) (I.ok.cab x c hfn hc)))).trans e1⟩
    · obtain ⟨o', e1⟩ := I.base.there b o e hx
      exact ⟨o', (hs.2 b (Nat.ne_of_lt (Nat.lt_of_lt_of_le (Heap.lt_size e) (I.ok.cab x c hfn hc)))).trans e1⟩
    · by_cases hj : j = i
      · subst hj
        rw [hi] at e1; cases e1
        rw [List.getElem?_set_self hiσ] at e2
        cases e2
        exact ⟨u, r, .inr ⟨.inl hk, c, hc, hc'⟩⟩
      · rw [List.getElem?_set_ne (Ne.symm hj)] at e2
        obtain ⟨u', r', q⟩ := hl j y v' e1 e2 e3
        refine ⟨u', r', ?_⟩
        rcases q with q | ⟨k, c', e, z'⟩
        · exact .inl q
        · refine .inr ⟨k, c', e, z'.sameBut hs ?_⟩
          rintro rfl
          exact hj (nodup_ix hN e1 (I.ok.inj _ _ _ e hc ▸ hi))
    · by_cases hcc : c' = c
      · subst hcc; exact ⟨_, hc'⟩
      · obtain ⟨w2, z2⟩ := I.cell y c' e
        exact ⟨w2, z2.sameBut hs hcc⟩
    · obtain ⟨e, n, ne, nf, d⟩ := I.pin p hp
      refine ⟨(hs.2 p.1 ?_).trans e, n, ne, nf, d⟩
      intro q
      rw [q, hoc] at e
      have q' : oc = p.2 := Option.some.inj e
      exact d w' (by rw [← q']; exact hocd)
theorem store_ok {M : Model} {A : Around} {E : Value → Shared → Prop} {i : Nat} {x : Str} {v : V} {u : Value} {Q : Unit → Shared → Prop} (I : Inv X pins σ H s) (hN : X.N.Nodup) (hi : X.N[i]? = some x) (hx : Loc X.env.scope x) (r : RelV v u)
    (h : ∀ s', Inv X pins (σ.set i (some v)) H s' → Q () s') (hf : X.fn x = true ∨ X.env.scope.names.lookup x = some .local := by first | exact .inl rfl | exact .inr rfl | assumption) : wpAny M A (storeName X.env x u) Q E s :=
  store_ok2 I hN hi hx r (fun s' I' _ => h s' I') hf
theorem Inv.call' {s' : Shared} {ch : List Addr} (I : Inv X pins σ H s) (ho : s'.os = s.os) (u : Un (frs X.stack) ch H H' s.heap s'.heap) (hok : HOk X.prog X.w H' s'.heap) (hg : AllBare s'.gens)
    (hch : ∀ b ∈ ch, (b ∈ X.ex ∨ X.s₀.heap.objs.size ≤ b) ∧ b ≠ X.env.locals ∧ (∀ x c, X.env.cells.lookup x = some c → c ≠ b) ∧ ∀ p ∈ X.pn ++ pins, p.1 ≠ b) : Inv X pins σ H' s' := by
  obtain ⟨h', g', d', t', o'⟩ := s'
  have e : o' = s.os := ho
  subst e
  exact I.call (g' := g') (t' := t') (d' := d') u hok hg hch
end

abbrev XK := Value → Option Addr → Hp → Prop
abbrev St := List (Option V)
abbrev VK := V → Hp → Prop
abbrev TE := St → Hp → VK → Prop
abbrev TT := St → Hp → (Bool → Hp → Prop) → Prop
abbrev TA := St → Hp → (List V → Hp → Prop) → Prop
structure Ends where
  nx : St → Hp → Prop
  rt : VK
  bk : St → Hp → Prop := fun _ _ => False
  ct : St → Hp → Prop := fun _ _ => False
abbrev TS := Ends → St → Hp → Prop

def EP (X : Cx) (pins : List (Addr × Obj)) (σ : St) (Q : VK) (u : Value) (s' : Shared) : Prop := ∃ v H', Inv X pins σ H' s' ∧ RelV v u ∧ Q v H'
def TP (X : Cx) (pins : List (Addr × Obj)) (σ : St) (Q : Bool → Hp → Prop) (b : Bool) (s' : Shared) : Prop := ∃ H', Inv X pins σ H' s' ∧ Q b H'
def AP (X : Cx) (pins : List (Addr × Obj)) (σ : St) (Q : List V → Hp → Prop) (us : List Value) (s' : Shared) : Prop := ∃ vs H', Inv X pins σ H' s' ∧ Vals vs us ∧ Q vs H'
def SP (X : Cx) (pins : List (Addr × Obj)) (D : Ends) (f : Flow) (s' : Shared) : Prop :=
  match f with
  | .next => ∃ σ' H', Inv X pins σ' H' s' ∧ D.nx σ' H'
  | .brk => ∃ σ' H', Inv X pins σ' H' s' ∧ D.bk σ' H'
  | .cont => ∃ σ' H', Inv X pins σ' H' s' ∧ D.ct σ' H'
  | .ret u => ∃ v σ' H', Inv X pins σ' H' s' ∧ RelV v u ∧ D.rt v H'

def PE (X : Cx) (e : Expr) (t : TE) : Prop :=
  ∀ (pins : List (Addr × Obj)) (s : Shared) (σ : St) (H : Hp) (Q : VK), Inv X pins σ H s → t σ H Q → wpAny (model X.prog X.w) X.A (eval e X.env) (EP X pins σ Q) X.xe s
def PT (X : Cx) (e : Expr) (t : TT) : Prop :=
  ∀ (pins : List (Addr × Obj)) (s : Shared) (σ : St) (H : Hp) (Q : Bool → Hp → Prop), Inv X pins σ H s → t σ H Q → wpAny (model X.prog X.w) X.A (isTrue e X.env (eval e X.env)) (TP X pins σ Q) X.xe s
def PW (X : Cx) (e : Expr) (t : TT) : Prop :=
  ∀ (whole : Sem Value) (pins : List (Addr × Obj)) (s : Shared) (σ : St) (H : Hp) (Q : Bool → Hp → Prop), Inv X pins σ H s → t σ H Q → wpAny (model X.prog X.w) X.A (isTrue e X.env whole) (TP X pins σ Q) X.xe s
theorem PW.pt {X : Cx} {e : Expr} {t : TT} (h : PW X e t) : PT X e t := h _
def PA (X : Cx) (es : List Expr) (t : TA) : Prop :=
  ∀ (pos : Pos) (pins : List (Addr × Obj)) (s : Shared) (σ : St) (H : Hp) (Q : List V → Hp → Prop), Inv X pins σ H s → t σ H Q → wpAny (model X.prog X.w) X.A (spliced (backTo pos (starEach es X.env))) (AP X pins σ Q) X.xe s
def PS (X : Cx) (st : Stmt) (t : TS) : Prop :=
  ∀ (pins : List (Addr × Obj)) (s : Shared) (σ : St) (H : Hp) (D : Ends), Inv X pins σ H s → t D σ H → wpAny (model X.prog X.w) X.A (exec st X.env) (SP X pins D) X.xe s
def PSs (X : Cx) (st : List Stmt) (t : TS) : Prop :=
  ∀ (pins : List (Addr × Obj)) (s : Shared) (σ : St) (H : Hp) (D : Ends), Inv X pins σ H s → t D σ H → wpAny (model X.prog X.w) X.A (execs st X.env) (SP X pins D) X.xe s
theorem thn {α : Type} {t : Sem α} {Q Q' : α → Shared → Prop} {M : Model} {A : Around} {E : Value → Shared → Prop} {s : Shared} (h : wpAny M A t Q E s) (hQ : ∀ a s, Q a s → Q' a s) : wpAny M A t Q' E s := wpAny_mono h hQ fun _ _ x => x
end L2

namespace L2
open PySem PySem.Spec PyProof.Rows
section
variable {X : Cx}

def tVar (i : Nat) : TE := fun σ H Q => ∃ v, σ[i]? = some (some v) ∧ Q v H
def tC (v : V) : TE := fun _ H Q => Q v H
theorem pe_var {i : Nat} {x : Str} {pos : Pos} (hN : X.N[i]? = some x) (hv : Vis X.env.scope x) (hd : (x == ("__debug__" : Str)) = false := by decide) (hcd : (x == ("__classdict__" : Str)) = false := by decide) : PE X (.Name x pos) (tVar i) := by
  intro pins s σ H Q I h
  obtain ⟨v, e, h⟩ := h
  obtain ⟨m, hn, hl⟩ := I.loc
  obtain ⟨u, r, l⟩ := hl i x v hN e hv
  have fin : EP X pins σ Q u s := ⟨v, H, I, r, h⟩
  rcases l with ⟨hk, hm⟩ | ⟨hk, c, hc, hcell⟩
  · exact wpAny_Name (wpAny_loadName_local I.ok.kind hk hn hm fin) hd
  · rcases hk with hk | hk
    · exact wpAny_Name (wpAny_loadName_cell I.ok.kind hk hc hcell fin) hd
    · exact wpAny_Name (wpAny_loadName_free I.ok.kind hk hc hcell fin hcd) hd
theorem pe_int {i j pos} : PE X (.Constant (.int i) j pos) (tC (.int i)) := fun _ _ _ H _ I h => wpAny_Constant_int ⟨.int i, H, I.tok _, ⟨_, rfl⟩, h⟩
theorem pe_bl {b j pos} : PE X (.Constant (.bool b) j pos) (tC (.bl b)) := fun _ _ _ H _ I h => Constant_bool ⟨.bl b, H, I, rfl, h⟩
theorem pe_non {j pos} : PE X (.Constant .none j pos) (tC .non) := fun _ _ _ H _ I h => Constant_none ⟨.non, H, I, rfl, h⟩
theorem pe_str {x j pos} : PE X (.Constant (.str x) j pos) (tC (.str x)) := fun _ _ _ H _ I h => Calls.Constant_str ⟨.str x, H, I.tok _, ⟨_, rfl⟩, h⟩

def Gl (X : Cx) (x : Str) : Prop := X.env.kindOf x = some .globalImplicit
theorem ld_glob {E : Value → Shared → Prop} {pins : List (Addr × Obj)} {s : Shared} {σ : St} {H : Hp} {x : Str} {u : Value} {pos : Pos} {Q : Value → Shared → Prop} (I : Inv X pins σ H s) (hg : Gl X x) (hm : X.mg x = some u) (h : Q u s)
    (hd : (x == ("__debug__" : Str)) = false := by decide) : wpAny (model X.prog X.w) X.A (eval (.Name x pos) X.env) Q E s :=
  Calls.Name_function_global I.ok.kind hg (Calls.loadGlobal_global (by rw [I.ok.glob]; exact I.mod.glob.keeps I.bk) hm h) hd
theorem ld_blt {E : Value → Shared → Prop} {pins : List (Addr × Obj)} {s : Shared} {σ : St} {H : Hp} {x : Str} {u : Value} {pos : Pos} {Q : Value → Shared → Prop} (I : Inv X pins σ H s) (hg : Gl X x) (hm : X.mg x = none) (hv : bootBuiltins x = some u) (h : Q u s)
    (hn : x ≠ "__name__" := by decide) (hd : (x == ("__debug__" : Str)) = false := by decide) : wpAny (model X.prog X.w) X.A (eval (.Name x pos) X.env) Q E s := by
  obtain ⟨mb, h1, h2⟩ := I.mod.blt
  exact Calls.Name_function_global I.ok.kind hg (Calls.loadGlobal_builtin (by rw [I.ok.glob]; exact I.mod.glob.keeps I.bk) hm (by rw [I.ok.blt]; exact h1.keeps I.bk) ((h2 x hn).trans hv) h) hd
theorem pe_glob {x : Str} {v : V} {u : Value} {pos : Pos} (hg : Gl X x) (hm : X.mg x = some u) (r : RelV v u) (hd : (x == ("__debug__" : Str)) = false := by decide) : PE X (.Name x pos) (tC v) :=
  fun _ _ _ H _ I h => ld_glob I hg hm ⟨v, H, I, r, h⟩ hd
theorem pe_bltn {x : Str} {v : V} {u : Value} {pos : Pos} (hg : Gl X x) (hm : X.mg x = none) (hv : bootBuiltins x = some u) (r : RelV v u) (hn : x ≠ "__name__" := by decide) (hd : (x == ("__debug__" : Str)) = false := by decide) : PE X (.Name x pos) (tC v) :=
  fun _ _ _ H _ I h => ld_blt I hg hm hv ⟨v, H, I, r, h⟩ hn hd

variable {a b : Expr} {ta tb : TE} {pos : Pos}
variable {tA tB' : TT} {rest : List Expr}
def tNot (t : TT) : TT := fun σ H Q => t σ H fun c H1 => Q (!c) H1
theorem pw_and1 (ha : PT X a tA) : PW X (.BoolOp .And [a] pos) tA := by
  intro wh pins s σ H Q I h
  refine isTrue_and (thn (ha pins s σ H Q I h) fun c s1 e => ?_)
  cases c with
  | true => exact isTrue_and_nil e
  | false => exact e
theorem pw_or1 (ha : PT X a tA) : PW X (.BoolOp .Or [a] pos) tA := by
  intro wh pins s σ H Q I h
  refine isTrue_or (thn (ha pins s σ H Q I h) fun c s1 e => ?_)
  cases c with
  | false => exact isTrue_or_nil e
  | true => exact e
theorem pt_not (ha : PT X a tA) : PT X (.UnaryOp .Not a pos) (tNot tA) := by
  intro pins s σ H Q I h
  exact isTrue_not (ha pins s σ H (fun c H1 => Q (!c) H1) I h)
theorem pe_one {op} {t : TE} (h : PE X a t) : PE X (.BoolOp op [a] pos) t := fun pins s σ H Q I hw => BoolOp_one (h pins s σ H Q I hw)
end
end L2

namespace L2
open PySem PySem.Spec PyProof.Rows

def SqL (K : PySem.W.Frag) (H : Hp) (a : Addr) (xs : List V) : Prop :=
  Rd H a (.lst xs) ∨
    ∃ (o : Obj) (its : Array Value) (n : Nat), K.lookup a = some o ∧ o.cls = .type "list" ∧ o.dict = none ∧ o.data = .seq its n ∧ its.size ≤ sizeLine ∧ Vals xs its.toList
def SqT (K : PySem.W.Frag) (H : Hp) (a : Addr) (xs : List V) : Prop :=
  Rd H a (.tup xs) ∨
    ∃ (o : Obj) (its : Array Value) (n : Nat), K.lookup a = some o ∧ o.cls = .type "tuple" ∧ o.data = .seq its n ∧ its.size ≤ sizeLine ∧ Vals xs its.toList
def absV : Value → Option V
  | .none => some .non
  | .bool b => some (.bl b)
  | .int i _ => some (.int i)
  | .str x _ => some (.str x)
  | .bytes b _ => some (.byt b)
  | .float b _ => some (.flt b)
  | .ref a => some (.ref a)
  | .type n => some (.ty n)
  | _ => none
theorem RelV.abs {x : V} {u : Value} (r : RelV x u) : absV u = some x := by
  cases x with
  | non => cases r; rfl
  | bl _ => cases r; rfl
  | int _ => obtain ⟨t, rfl⟩ := r; rfl
  | str _ => obtain ⟨t, rfl⟩ := r; rfl
  | byt _ => obtain ⟨t, rfl⟩ := r; rfl
  | flt _ => obtain ⟨t, rfl⟩ := r; rfl
  | ref _ => cases r; rfl
  | ty _ => cases r; rfl
theorem RelV.inj {x y : V} {u : Value} (r : RelV x u) (q : RelV y u) : x = y := Option.some.inj (r.abs.symm.trans q.abs)
theorem Vals.inj : ∀ {xs ys : List V} {us : List Value}, Vals xs us → Vals ys us → xs = ys
  | _, _, _, .nil, .nil => rfl
  | _, _, _, .cons r t, .cons r' t' => by rw [r.inj r', Vals.inj t t']
section
variable {X : Cx} {pins : List (Addr × Obj)} {σ : St} {H : Hp} {s : Shared} {a : Addr} {xs ys : List V}
theorem SqL.of {K : PySem.W.Frag} (h : H a = some (.lst xs)) : SqL K H a xs := .inl (.inl h)
theorem SqT.of {K : PySem.W.Frag} (h : H a = some (.tup xs)) : SqT K H a xs := .inl (.inl h)
theorem Inv.list (I : Inv X pins σ H s) (h : SqL X.K H a xs) : ∃ its : List Value, Vals xs its ∧ PlainL s.heap a its.toArray ∧ xs.length ≤ sizeLine := by
  rcases h with h | ⟨o, its, n, hk, hc, hd, hs, hz, r⟩
  · obtain ⟨z, its, n, r, e⟩ := h.ok I.hok
    exact ⟨its, r, ⟨_, n, e, rfl, rfl, rfl⟩, z⟩
  · refine ⟨its.toList, r, ⟨o, n, I.kIn a o hk, hc, hd, by simpa using hs⟩, ?_⟩
    have e := r.length
    simp only [Array.length_toList] at e
    omega
theorem Inv.tuple (I : Inv X pins σ H s) (h : SqT X.K H a xs) : ∃ its : List Value, Vals xs its ∧ IsTup s.heap a its.toArray ∧ xs.length ≤ sizeLine := by
  rcases h with h | ⟨o, its, n, hk, hc, hs, hz, r⟩
  · obtain ⟨z, its, r, p⟩ := h.ok I.hok
    exact ⟨its, r, p, z⟩
  · refine ⟨its.toList, r, ⟨o, I.kIn a o hk, hc, n, by simpa using hs⟩, ?_⟩
    have e := r.length
    simp only [Array.length_toList] at e
    omega
theorem Inv.list_inj (I : Inv X pins σ H s) (h : SqL X.K H a xs) (h' : SqL X.K H a ys) : xs = ys := by
  obtain ⟨its, r, ⟨o, n, e, _, _, d⟩, _⟩ := I.list h
  obtain ⟨its', r', ⟨o', n', e', _, _, d'⟩, _⟩ := I.list h'
  rw [e] at e'; cases e'
  rw [d] at d'
  injection d' with d1 _
  have : its = its' := by simpa using congrArg Array.toList d1
  subst this
  exact r.inj r'
theorem Inv.tuple_inj (I : Inv X pins σ H s) (h : SqT X.K H a xs) (h' : SqT X.K H a ys) : xs = ys := by
  obtain ⟨its, r, ⟨o, e, _, n, d⟩, _⟩ := I.tuple h
  obtain ⟨its', r', ⟨o', e', _, n', d'⟩, _⟩ := I.tuple h'
  rw [e] at e'; cases e'
  rw [d] at d'
  injection d' with d1 _
  have : its = its' := by simpa using congrArg Array.toList d1
  subst this
  exact r.inj r'
end

abbrev Cx.wish (X : Cx) (E : Value → Shared → Prop) : Cx := { X with xe := E }
abbrev Cx.nox (X : Cx) : Cx := X.wish fun _ _ => False
theorem Cx.Ok.wish {X : Cx} (ok : X.Ok) (E : Value → Shared → Prop) : (X.wish E).Ok :=
  ⟨ok.mod, ok.kind, ok.glob, ok.blt, ok.above, ok.inj, ok.has, ok.cab, ok.hd, ok.frames, ok.stk, ok.exf, ok.bs, ok.bsz, ok.noex, ok.exfs, ok.funs, ok.frf⟩
theorem Cx.Ok.unwish {X : Cx} {E : Value → Shared → Prop} (ok : (X.wish E).Ok) : X.Ok :=
  ⟨ok.mod, ok.kind, ok.glob, ok.blt, ok.above, ok.inj, ok.has, ok.cab, ok.hd, ok.frames, ok.stk, ok.exf, ok.bs, ok.bsz, ok.noex, ok.exfs, ok.funs, ok.frf⟩
section
variable {X : Cx} {pins : List (Addr × Obj)} {σ : St} {H : Hp} {s : Shared} {E : Value → Shared → Prop}
theorem Inv.wish (I : Inv X pins σ H s) (E : Value → Shared → Prop) : Inv (X.wish E) pins σ H s := ⟨I.ok.wish E, I.os, I.bare, I.base, I.loc, I.cell, I.free, I.freeC, I.pin, I.hok, I.len⟩
theorem Inv.unwish (I : Inv (X.wish E) pins σ H s) : Inv X pins σ H s := ⟨I.ok.unwish, I.os, I.bare, I.base, I.loc, I.cell, I.free, I.freeC, I.pin, I.hok, I.len⟩
theorem SP.unwish {D : Ends} {f : Flow} {s' : Shared} (h : SP (X.wish E) pins D f s') : SP X pins D f s' := by
  cases f with
  | next => obtain ⟨σ', H', I, q⟩ := h; exact ⟨σ', H', I.unwish, q⟩
  | brk => obtain ⟨σ', H', I, q⟩ := h; exact ⟨σ', H', I.unwish, q⟩
  | cont => obtain ⟨σ', H', I, q⟩ := h; exact ⟨σ', H', I.unwish, q⟩
  | ret u => obtain ⟨v, σ', H', I, r, q⟩ := h; exact ⟨v, σ', H', I.unwish, r, q⟩
theorem PE.nox {e : Expr} {t : TE} (h : PE X.nox e t) : PE X e t := fun pins s σ H Q I hw =>
  wpAny_mono (h pins s σ H Q (I.wish _) hw) (fun _ _ ⟨v, H', I', r, q⟩ => ⟨v, H', I'.unwish, r, q⟩) fun _ _ z => False.elim z
theorem PT.nox {e : Expr} {t : TT} (h : PT X.nox e t) : PT X e t := fun pins s σ H Q I hw =>
  wpAny_mono (h pins s σ H Q (I.wish _) hw) (fun _ _ ⟨H', I', q⟩ => ⟨H', I'.unwish, q⟩) fun _ _ z => False.elim z
theorem PSs.nox {st : List Stmt} {t : TS} (h : PSs X.nox st t) : PSs X st t := fun pins s σ H D I hw =>
  wpAny_mono (h pins s σ H D (I.wish _) hw) (fun _ _ q => q.unwish) fun _ _ z => False.elim z
end

section
variable {X : Cx} {st : Stmt} {rest : List Stmt} {t u : TS} {e : Expr} {te : TE} {pos : Pos}
def tNext : TS := fun D σ H => D.nx σ H
def tSeq (t u : TS) : TS := fun D σ H => t { D with nx := u D } σ H
theorem pss_nil : PSs X [] tNext := fun _ _ σ H _ I h => wpAny_execs_nil ⟨σ, H, I, h⟩
theorem pss_cons (h1 : PS X st t) (h2 : PSs X rest u) : PSs X (st :: rest) (tSeq t u) := by
  intro pins s σ H D I h
  refine wpAny_execs_cons (thn (h1 pins s σ H { D with nx := u D } I h) fun f s1 q => ?_)
  cases f with
  | next =>
    obtain ⟨σ', H', I', q⟩ := q
    exact h2 pins s1 σ' H' D I' q
  | ret v => exact q
  | brk => exact q
  | cont => exact q
theorem pss_one (h1 : PS X st t) : PSs X [st] t := by
  intro pins s σ H D I h
  refine wpAny_execs_cons (thn (h1 pins s σ H D I h) fun f s1 q => ?_)
  cases f with
  | next => exact wpAny_execs_nil q
  | ret v => exact q
  | brk => exact q
  | cont => exact q
theorem Inv.quiet {pins : List (Addr × Obj)} {σ : St} {H : Hp} {s : Shared} (I : Inv X pins σ H s) : interactive X.env = false := by simp [interactive, I.ok.kind]
def tDrop (te : TE) : TS := fun D σ H => te σ H fun _ H1 => D.nx σ H1
theorem ps_expr (he : PE X e te) (hs : swapsWith e none pos.line X.env = pure false := by rfl) : PS X (.Expr e pos) (tDrop te) := by
  intro pins s σ H D I h
  exact wpAny_Expr_any (thn (he pins s σ H _ I h) fun v s1 ⟨x, H1, I1, r1, q1⟩ => ⟨σ, H1, I1, q1⟩) I.quiet hs
def tRet (te : TE) : TS := fun D σ H => te σ H D.rt
theorem ps_ret (he : PE X e te) : PS X (.Return (some e) pos) (tRet te) := by
  intro pins s σ H D I h
  exact wpAny_Return_some (thn (he pins s σ H _ I h) fun v s1 ⟨x, H1, I1, r1, q1⟩ => ⟨x, σ, H1, I1, r1, q1⟩)
end

abbrev TG := V → St → Hp → (St → Hp → Prop) → Prop
abbrev TGs := List V → St → Hp → (St → Hp → Prop) → Prop
def PG (X : Cx) (target : Expr) (t : TG) : Prop :=
  ∀ (pins : List (Addr × Obj)) (s : Shared) (σ : St) (H : Hp) (v : V) (u : Value) (Q : St → Hp → Prop), Inv X pins σ H s → RelV v u → t v σ H Q →
    wpAny (model X.prog X.w) X.A (assign target X.env u) (fun _ s' => ∃ σ' H', Inv X pins σ' H' s' ∧ Q σ' H') X.xe s
def PGs (X : Cx) (ts : List Expr) (t : TGs) : Prop :=
  ∀ (pins : List (Addr × Obj)) (s : Shared) (σ : St) (H : Hp) (vs : List V) (us : List Value) (Q : St → Hp → Prop), Inv X pins σ H s → Vals vs us → t vs σ H Q →
    wpAny (model X.prog X.w) X.A (assignInOrder ((assignEach ts X.env).map (·.2)) us) (fun _ s' => ∃ σ' H', Inv X pins σ' H' s' ∧ Q σ' H') X.xe s
abbrev TSet := V → V → V → Hp → (Hp → Prop) → Prop
def PSet (X : Cx) (t : TSet) : Prop :=
  ∀ (pins : List (Addr × Obj)) (s : Shared) (σ : St) (H : Hp) (o i v : V) (ov iv u : Value) (Q : Hp → Prop), Inv X pins σ H s → RelV o ov → RelV i iv → RelV v u → t o i v H Q →
    wpAny (model X.prog X.w) X.A (setItem ov iv u) (fun _ s' => ∃ H', Inv X pins σ H' s' ∧ Q H') X.xe s
section
variable {X : Cx} {pos : Pos}
def gName (i : Nat) : TG := fun v σ H Q => Q (σ.set i (some v)) H
theorem pg_name {i : Nat} {x : Str} (hN : X.N.Nodup) (hi : X.N[i]? = some x) (hx : Loc X.env.scope x) (hf : X.fn x = true ∨ X.env.scope.names.lookup x = some .local := by first | exact .inl rfl | exact .inr rfl | assumption) : PG X (.Name x pos) (gName i) := by
  intro pins s σ H v u Q I r h
  exact wpAny_assign_Name (store_ok I hN hi hx r (fun s' I' => ⟨_, H, I', h⟩) hf)
def gNil : TGs := fun vs σ H Q => vs = [] ∧ Q σ H
def gCons (t : TG) (u : TGs) : TGs := fun vs σ H Q => ∃ v r, vs = v :: r ∧ t v σ H fun σ' H' => u r σ' H' Q
theorem pgs_nil : PGs X [] gNil := by
  intro pins s σ H vs us Q I r h
  obtain ⟨e, h⟩ := h
  subst e
  cases r
  exact assignInOrder_nil ⟨σ, H, I, h⟩
theorem pgs_cons {e : Expr} {es : List Expr} {t : TG} {u : TGs} (h1 : PG X e t) (h2 : PGs X es u)
    (hs : (assignEach (e :: es) X.env).map (·.2) = assign e X.env :: (assignEach es X.env).map (·.2) := by rfl) : PGs X (e :: es) (gCons t u) := by
  intro pins s σ H vs us Q I r h
  obtain ⟨v, vr, e1, h⟩ := h
  subst e1
  cases r with
  | cons r rr =>
    rw [hs]
    refine assignInOrder_cons (thn (h1 pins s σ H _ _ _ I r h) fun _ s1 ⟨σ1, H1, I1, q1⟩ => ?_)
    exact h2 pins s1 σ1 H1 _ _ Q I1 rr q1
def gTup (K : PySem.W.Frag) (n : Nat) (t : TGs) : TG := fun v σ H Q => ∃ a xs, v = .ref a ∧ SqT K H a xs ∧ xs.length = n ∧ t xs σ H Q
theorem pg_tup {es : List Expr} {k : Nat} {t : TGs} {n : Nat} (hc : X.calm = true) (h : PGs X es t)
    (hn : (assignEach es X.env).length = n := by rfl) (hst : (assignEach es X.env).findIdx? (·.1) = none := by rfl) : PG X (.Tuple es k pos) (gTup X.K n t) := by
  intro pins s σ H v u Q I r hw
  obtain ⟨a, xs, e1, hq, hl, hw⟩ := hw
  subst e1
  cases r
  obtain ⟨its, rv, ht, hz⟩ := I.tuple hq
  refine assign_Tuple_tuple (I.ok.hd hc) ht (by simp [hn, ← hl, rv.length]) hst fun h' hx => ?_
  have I1 : Inv X pins σ H { s with heap := h' } := I.kept (t' := s.toks) fun b o e => hx b o (Nat.ne_of_lt (Heap.lt_size e)) e
  exact h pins _ σ H xs _ Q I1 (by simpa using rv) hw
def gSub (to ti : TE) (t : TSet) : TG := fun v σ H Q => to σ H fun o H1 => ti σ H1 fun i H2 => t o i v H2 fun H3 => Q σ H3
theorem pg_sub {o i : Expr} {to ti : TE} {t : TSet} (ho : PE X o to) (hi : PE X i ti) (hs : PSet X t)
    (ha : ∀ v, assign (.Subscript o i pos) X.env v = (do
      let ov ← holding [v] (eval o X.env)
      let iv ← holding [v, ov] (eval i X.env)
      standAt pos
      holding [v, ov, iv] (setItem ov iv v)
      release [v, ov, iv] []) := by intro _; rfl) : PG X (.Subscript o i pos) (gSub to ti t) := by
  intro pins s σ H v u Q I r h
  rw [ha]
  refine wpAny_bind (wpAny_holding (thn (ho pins s σ H _ I h) fun ov s1 ⟨x, H1, I1, r1, q1⟩ => ?_))
  refine wpAny_bind (wpAny_holding (thn (hi pins s1 σ H1 _ I1 q1) fun iv s2 ⟨y, H2, I2, r2, q2⟩ => ?_))
  refine wpAny_bind (wpAny_standAt (wpAny_bind (wpAny_holding (thn (hs pins s2 σ H2 x y v ov iv u _ I2 r1 r2 r q2) fun _ s3 ⟨H3, I3, q3⟩ => ?_))))
  exact wpAny_release ⟨σ, H3, I3, q3⟩
def tAsg (te : TE) (g : TG) : TS := fun D σ H => te σ H fun x H1 => g x σ H1 D.nx
theorem ps_asg {tg e : Expr} {te : TE} {g : TG} (he : PE X e te) (hg : PG X tg g) (hs : swapsWithSole [tg] e pos.line X.env = pure false := by rfl) (hw : swappedStores [tg] e X.env = pure none := by rfl)
    (h1 : (assignEach [tg] X.env).map (·.2) = [assign tg X.env] := by rfl) : PS X (.Assign [tg] e pos) (tAsg te g) := by
  intro pins s σ H D I h
  refine wpAny_Assign_stores (thn (he pins s σ H _ I h) fun v s1 ⟨x, H1, I1, r1, q1⟩ => ?_) hs hw
  rw [h1]
  exact thn (hg pins s1 σ H1 x v _ I1 r1 q1) fun _ s2 q => q
theorem ps_set {i : Nat} {x : Str} {e : Expr} {te : TE} {pos' : Pos} (hN : X.N.Nodup) (hi : X.N[i]? = some x) (hx : Loc X.env.scope x) (he : PE X e te) (hs : swapsWith e (some (.Name x pos')) pos.line X.env = pure false := by rfl) (hf : X.fn x = true ∨ X.env.scope.names.lookup x = some .local := by first | exact .inl rfl | exact .inr rfl | assumption) :
    PS X (.Assign [.Name x pos'] e pos) (tAsg te (gName i)) := by
  intro pins s σ H D I h
  refine wpAny_Assign_Name (thn (he pins s σ H _ I h) fun v s1 ⟨y, H1, I1, r1, q1⟩ => ?_) hs
  exact store_ok I1 hN hi hx r1 (fun s2 I2 => ⟨_, H1, I2, q1⟩) hf
end

section
variable {X : Cx} {pos : Pos}
end

structure It where
  go : Nat → Hp → Prop
  yld : Nat → Hp → V → Hp → Prop
  stop : Nat → Hp → Prop
def FpOk (X : Cx) (pins : List (Addr × Obj)) (H : Hp) (b : Addr) : Prop :=
  H b = none ∧ b ≠ X.env.locals ∧ b ∉ X.fs ∧ (b ∈ X.ex ∨ X.s₀.heap.objs.size ≤ b) ∧ (∀ x c, X.env.cells.lookup x = some c → c ≠ b) ∧ ∀ p ∈ X.pn ++ pins, p.1 ≠ b
theorem Inv.fpOk {X : Cx} {pins : List (Addr × Obj)} {σ : St} {H H' : Hp} {s : Shared} {b : Addr} (I : Inv X pins σ H s) (hb : s.heap.objs.size ≤ b) (hn : H' b = none) : FpOk X pins H' b := by
  refine ⟨hn, Nat.ne_of_gt (Nat.lt_of_lt_of_le I.lt hb), I.nofs hb, .inr (Nat.le_trans I.sz hb), fun x c e z => ?_, fun p hp z => ?_⟩
  · obtain ⟨v, q⟩ := I.cell x c e
    exact absurd (Nat.lt_of_lt_of_le q.lt (by rw [z]; exact hb)) (Nat.lt_irrefl _)
  · exact absurd (Nat.lt_of_lt_of_le (Heap.lt_size (I.pin p hp).1) (by rw [z]; exact hb)) (Nat.lt_irrefl _)
structure Turn (P : Program) (w : World) (K : PySem.W.Frag) (tg : Expr) (J : It) (fp : List Addr) (it : Addr) (tn : Nat → Heap → Prop) : Prop where
  mem : it ∈ fp
  obj : ∀ i h, tn i h → ∀ b ∈ fp, ∃ o, h.get? b = some o ∧ ∀ v, o.data ≠ .cell v
  keep : ∀ i h h', tn i h → (∀ b ∈ fp, ∀ o, h.get? b = some o → h'.get? b = some o) → tn i h'
  item : ∀ (X : Cx), X.prog = P → X.w = w → X.K = K → X.calm = true → ∀ (i : Nat) (pins : List (Addr × Obj)) (s : Shared) (σ : St) (H : Hp) (E : Value → Shared → Prop), Inv X pins σ H s → (∀ b ∈ fp, FpOk X pins H b) → tn i s.heap → J.go i H →
    wpAny (model P w) X.A (pyNext (.ref it)) (fun r s1 => ∃ u, r = some u ∧
      wpAny (model P w) X.A (letOwnedTupleGo tg (.ref it) u) (fun _ s2 => ∃ x H', Inv X pins σ H' s2 ∧ RelV x u ∧ J.yld i H x H' ∧ tn (i + 1) s2.heap ∧ ∀ b ∈ fp, H' b = none) E s1) E s
  done : ∀ (X : Cx), X.prog = P → X.w = w → X.K = K → X.calm = true → ∀ (i : Nat) (pins : List (Addr × Obj)) (s : Shared) (σ : St) (H : Hp) (E : Value → Shared → Prop), Inv X pins σ H s → (∀ b ∈ fp, FpOk X pins H b) → tn i s.heap → J.stop i H →
    wpAny (model P w) X.A (pyNext (.ref it)) (fun r s1 => r = none ∧ Inv X pins σ H s1) E s
  self : ∀ (A : Around) (i : Nat) (s : Shared) (Q : Value → Shared → Prop) (E : Value → Shared → Prop), tn i s.heap → Q (.ref it) s → wpAny (model P w) A (pyIter (.ref it)) Q E s
abbrev TI := St → Hp → (It → Hp → Prop) → Prop
def PIE (X : Cx) (pins : List (Addr × Obj)) (σ : St) (tg : Expr) (R : It → Hp → Prop) (itv : Value) (s2 : Shared) : Prop :=
  ∃ (it : Addr) (fp : List Addr) (tn : Nat → Heap → Prop) (J : It) (H' : Hp), itv = .ref it ∧ Inv X pins σ H' s2 ∧ Turn X.prog X.w X.K tg J fp it tn ∧ tn 0 s2.heap ∧ (∀ b ∈ fp, FpOk X pins H' b) ∧ R J H'
def PI (X : Cx) (tg iter : Expr) (wi : TI) : Prop :=
  ∀ (pins : List (Addr × Obj)) (s : Shared) (σ : St) (H : Hp) (R : It → Hp → Prop), Inv X pins σ H s → wi σ H R →
    wpAny (model X.prog X.w) X.A (eval iter X.env) (fun v s1 => wpAny (model X.prog X.w) X.A (pyIter v) (PIE X pins σ tg R) X.xe s1) X.xe s

theorem go_of {M : Model} {A : Around} {E : Value → Shared → Prop} {s : Shared} {tg : Expr} {it : Addr} {u : Value} {o : Obj} {n : String} {vs : Array Value} {Q : Unit → Shared → Prop} (ho : s.heap.get? it = some o) (hc : o.cls = .type n) (hd : o.data = .fields vs)
    (hn : ["enumerate", "zip", "dict_itemiterator", "dict_reverseitemiterator", "odict_iterator", "itertools.zip_longest", "itertools.pairwise"].contains n = false) (hQ : Q () s) : wpAny M A (letOwnedTupleGo tg (.ref it) u) Q E s := by
  unfold letOwnedTupleGo
  cases tg <;> first
    | exact wpAny_pure hQ
    | (cases u <;> first
        | exact wpAny_pure hQ
        | (refine wpAny_bind (wpAny_load ho ?_)
           rw [hc, hd]
           show wpAny M A (if (["enumerate", "zip", "dict_itemiterator", "dict_reverseitemiterator", "odict_iterator", "itertools.zip_longest", "itertools.pairwise"].contains n && vs[0]? == some (rawInt _)) = true then _ else _) Q E s
           rw [if_neg (by intro h; rw [hn, Bool.false_and] at h; cases h)]
           exact wpAny_pure hQ))

def Itl (K : PySem.W.Frag) (a : Addr) : It :=
  ⟨fun i H => ∃ xs x, SqL K H a xs ∧ xs[i]? = some x, fun i H x H' => H' = H ∧ ∀ xs, SqL K H a xs → xs[i]? = some x, fun i H => ∃ xs, SqL K H a xs ∧ xs.length ≤ i⟩
def Itt (K : PySem.W.Frag) (a : Addr) : It :=
  ⟨fun i H => ∃ xs x, SqT K H a xs ∧ xs[i]? = some x, fun i H x H' => H' = H ∧ ∀ xs, SqT K H a xs → xs[i]? = some x, fun i H => ∃ xs, SqT K H a xs ∧ xs.length ≤ i⟩
def Itr (lo : Int) (n : Nat) : It := ⟨fun i _ => i < n, fun i H x H' => H' = H ∧ x = .int (lo + i), fun i _ => n ≤ i⟩
theorem turn_list {P : Program} {w : World} {K : PySem.W.Frag} {tg : Expr} (a it : Addr) : Turn P w K tg (Itl K a) [it] it (fun i h => h.IsListIter it a i) where
  mem := by simp
  obj := fun i h st b hb => by
    have e : b = it := by simpa using hb
    subst e
    obtain ⟨o, e, c, d⟩ := st
    exact ⟨o, e, fun v z => by rw [d] at z; cases z⟩
  keep := fun i h h' st k => st.at fun o e => k it (by simp) o e
  item := by
    intro X hP hw hK hc i pins s σ H E I hf st hg
    subst hP hw hK
    obtain ⟨xs, x, hq, hx⟩ := hg
    obtain ⟨its, rv, p, hz⟩ := I.list hq
    obtain ⟨u, hu, ru⟩ := rv.get hx
    obtain ⟨f0, f1, f2, f3, f4, f5⟩ := hf it (by simp)
    refine wpAny_pyNext_list_item st p.isList (x := u) (by simpa using hu) fun h' st' sb => ?_
    have I1 : Inv X pins σ H { s with heap := h' } := I.turned (t' := s.toks) (fun b o hb e => (sb.2 b hb).trans e) f0 f1 f3 f4 f5
    obtain ⟨o, e, c, d⟩ := id st'
    exact ⟨u, rfl, go_of (s := { s with heap := h' }) e c d (by decide) ⟨x, H, I1, ru, ⟨rfl, fun ys hy => by rw [I.list_inj hy hq]; exact hx⟩, st', fun b hb => (hf b hb).1⟩⟩
  done := by
    intro X hP hw hK hc i pins s σ H E I hf st hg
    subst hP hw hK
    obtain ⟨xs, hq, hx⟩ := hg
    obtain ⟨its, rv, p, hz⟩ := I.list hq
    obtain ⟨f0, f1, f2, f3, f4, f5⟩ := hf it (by simp)
    have hl := rv.length
    exact wpAny_pyNext_list_end (I.ok.hd hc) st p.isList (by simp; omega) fun h' eb => ⟨rfl, I.turned (t' := s.toks) (fun b o hb e => eb b o hb e) f0 f1 f3 f4 f5⟩
  self := fun _ _ _ _ _ st h => wpAny_pyIter_listiter st h
theorem turn_tuple {P : Program} {w : World} {K : PySem.W.Frag} {tg : Expr} (a it : Addr) : Turn P w K tg (Itt K a) [it] it (fun i h => h.IsTupleIter it a i) where
  mem := by simp
  obj := fun i h st b hb => by
    have e : b = it := by simpa using hb
    subst e
    obtain ⟨o, e, c, d⟩ := st
    exact ⟨o, e, fun v z => by rw [d] at z; cases z⟩
  keep := fun i h h' st k => st.at fun o e => k it (by simp) o e
  item := by
    intro X hP hw hK hc i pins s σ H E I hf st hg
    subst hP hw hK
    obtain ⟨xs, x, hq, hx⟩ := hg
    obtain ⟨its, rv, p, hz⟩ := I.tuple hq
    obtain ⟨u, hu, ru⟩ := rv.get hx
    obtain ⟨f0, f1, f2, f3, f4, f5⟩ := hf it (by simp)
    refine wpAny_pyNext_tuple_item st (show s.heap.IsTuple a its.toArray from p) (x := u) (by simpa using hu) fun h' st' sb => ?_
    have I1 : Inv X pins σ H { s with heap := h' } := I.turned (t' := s.toks) (fun b o hb e => (sb.2 b hb).trans e) f0 f1 f3 f4 f5
    obtain ⟨o, e, c, d⟩ := id st'
    exact ⟨u, rfl, go_of (s := { s with heap := h' }) e c d (by decide) ⟨x, H, I1, ru, ⟨rfl, fun ys hy => by rw [I.tuple_inj hy hq]; exact hx⟩, st', fun b hb => (hf b hb).1⟩⟩
  done := by
    intro X hP hw hK hc i pins s σ H E I hf st hg
    subst hP hw hK
    obtain ⟨xs, hq, hx⟩ := hg
    obtain ⟨its, rv, p, hz⟩ := I.tuple hq
    obtain ⟨f0, f1, f2, f3, f4, f5⟩ := hf it (by simp)
    have hl := rv.length
    exact wpAny_pyNext_tuple_end (I.ok.hd hc) st (show s.heap.IsTuple a its.toArray from p) (by simp; omega) fun h' eb => ⟨rfl, I.turned (t' := s.toks) (fun b o hb e => eb b o hb e) f0 f1 f3 f4 f5⟩
  self := fun _ _ _ _ _ st h => wpAny_pyIter_tupleiter st h
theorem turn_range {P : Program} {w : World} {K : PySem.W.Frag} {tg : Expr} (it : Addr) (lo : Int) (n : Nat) : Turn P w K tg (Itr lo n) [it] it (fun i h => IsRangeIter h it (lo + (i : Nat) * 1) ((n : Int) - (i : Nat)) 1) where
  mem := by simp
  obj := fun i h st b hb => by
    have e : b = it := by simpa using hb
    subst e
    exact ⟨_, st, fun v z => by
      have z' : Data.fields _ = Data.cell v := z
      cases z'⟩
  keep := fun i h h' st k => k it (by simp) _ st
  item := by
    intro X hP hw hK hc i pins s σ H E I hf st hg
    subst hP hw hK
    obtain ⟨f0, f1, f2, f3, f4, f5⟩ := hf it (by simp)
    have W := Walks.range (prog := X.prog) (w := X.w) (I.ok.hd hc) it lo 1 n
    refine W.item i s _ _ hg st fun v h' tk hv st' kk => ?_
    obtain ⟨t, rfl⟩ := hv
    have I1 : Inv X pins σ H { s with heap := h', toks := tk } := I.turned (fun b o hb e => kk b o (by simpa using hb) e) f0 f1 f3 f4 f5
    refine ⟨_, rfl, go_of (s := { s with heap := h', toks := tk }) (n := "range_iterator") st' rfl rfl (by decide) ⟨.int (lo + i), H, I1, ⟨t, ?_⟩, ⟨rfl, rfl⟩, st', fun b hb => (hf b hb).1⟩⟩
    rw [Int.mul_one]
  done := by
    intro X hP hw hK hc i pins s σ H E I hf st hg
    subst hP hw hK
    obtain ⟨f0, f1, f2, f3, f4, f5⟩ := hf it (by simp)
    exact wpAny_pyNext_range_end (I.ok.hd hc) st (by have : n ≤ i := hg; omega) fun h' eb => ⟨rfl, I.turned (t' := s.toks) (fun b o hb e => eb b o hb e) f0 f1 f3 f4 f5⟩
  self := fun _ _ _ _ _ st h => wpAny_pyIter_rangeiter st h
end L2

namespace L2
open PySem PySem.Spec PyProof.Rows
section
variable {X : Cx} {tg : Expr}
theorem range_it {pins : List (Addr × Obj)} {σ : St} {H : Hp} {s : Shared} {R : It → Hp → Prop} {E : Value → Shared → Prop} {lo hi : Int} {t u v : Tok} {tk : Nat} (I : Inv X pins σ H s) (h1 : -(2 ^ 62) ≤ lo) (h2 : lo < 2 ^ 62) (h3 : -(2 ^ 62) ≤ hi) (h4 : hi < 2 ^ 62)
    (q : R (Itr lo (hi - lo).toNat) H) : wpAny (model X.prog X.w) X.A (pyIter (.ref s.heap.objs.size)) (PIE X pins σ tg R) E { s with heap := s.heap.push { cls := .type "range", data := .fields #[.int lo t, .int hi u, .int 1 v] }, toks := tk } := by
  refine wpAny_pyIter_range (IsRange.new ..) (small_one h1 h2 h3 h4) ?_
  have I1 : Inv X pins σ H { s with heap := s.heap.push { cls := .type "range", data := .fields #[.int lo t, .int hi u, .int 1 v] }, toks := tk } := I.kept fun b o e => Heap.get?_push_of_some _ e
  refine ⟨(s.heap.push { cls := .type "range", data := .fields #[.int lo t, .int hi u, .int 1 v] }).objs.size, [(s.heap.push { cls := .type "range", data := .fields #[.int lo t, .int hi u, .int 1 v] }).objs.size], _, _, H, rfl,
    I1.kept (t' := tk) fun b o e => Heap.get?_push_of_some _ e, turn_range _ lo (hi - lo).toNat, ?_, fun b hb => ?_, q⟩
  · have e1 : lo + ((0 : Nat) : Int) * 1 = lo := by simp
    have e2 : (((hi - lo).toNat : Nat) : Int) - ((0 : Nat) : Int) = Builtin.Range.rangeSize lo hi 1 := by rw [rangeSize_one]; split <;> omega
    show IsRangeIter _ _ (lo + ((0 : Nat) : Int) * 1) ((((hi - lo).toNat : Nat) : Int) - ((0 : Nat) : Int)) 1
    rw [e1, e2]
    exact Heap.get?_push_size _ rfl
  · have e : b = (s.heap.push { cls := .type "range", data := .fields #[.int lo t, .int hi u, .int 1 v] }).objs.size := by simpa using hb
    subst e
    exact I1.fpOk (Nat.le_refl _) (I1.hok.fresh (Nat.le_refl _))
def iRng1 (ta : TA) : TI := fun σ H R => ta σ H fun vs H1 => ∃ j : Int, vs = [.int j] ∧ -(2 ^ 62) ≤ j ∧ j < 2 ^ 62 ∧ R (Itr 0 j.toNat) H1
def iRng2 (ta : TA) : TI := fun σ H R => ta σ H fun vs H1 => ∃ i j : Int, vs = [.int i, .int j] ∧ (-(2 ^ 62) ≤ i ∧ i < 2 ^ 62 ∧ -(2 ^ 62) ≤ j ∧ j < 2 ^ 62) ∧ R (Itr i (j - i).toNat) H1
theorem pi_range1 {a : Expr} {ta : TA} {p pos : Pos} (hg : Gl X "range") (hm : X.mg "range" = none) (ha : PA X [a] ta) (hs : starEach [a] X.env = [(false, eval a X.env)] := by rfl) : PI X tg (.Call (.Name "range" p) [a] [] pos) (iRng1 ta) := by
  intro pins s σ H R I h
  refine Call_ (ld_blt I hg hm boot_range (PyProof.Rows.callWith_type1 (thn (ha pos pins s σ H _ I h) fun us s1 ⟨vs, H1, I1, r1, q1⟩ => ?_) hs rfl))
  obtain ⟨j, e, q1, q2, q⟩ := q1
  subst e
  cases r1 with
  | cons r rr =>
    cases rr
    obtain ⟨t, rfl⟩ := r
    exact call_range_1 (range_it I1 (by omega) (by omega) q1 q2 (by simpa using q))
theorem pi_range2 {a b : Expr} {ta : TA} {p pos : Pos} (hg : Gl X "range") (hm : X.mg "range" = none) (ha : PA X [a, b] ta) (hs : starEach [a, b] X.env = [(false, eval a X.env), (false, eval b X.env)] := by rfl) (hs2 : starEach [b] X.env = [(false, eval b X.env)] := by rfl) :
    PI X tg (.Call (.Name "range" p) [a, b] [] pos) (iRng2 ta) := by
  intro pins s σ H R I h
  refine Call_ (ld_blt I hg hm boot_range (PyProof.Rows.callWith_type1 (thn (ha pos pins s σ H _ I h) fun us s1 ⟨vs, H1, I1, r1, q1⟩ => ?_) (by rw [hs, hs2]) (by rw [hs2]; rfl)))
  obtain ⟨i, j, e, ⟨q1, q2, q3, q4⟩, q⟩ := q1
  subst e
  cases r1 with
  | cons r rr =>
    cases rr with
    | cons r' rr =>
      cases rr
      obtain ⟨t, rfl⟩ := r
      obtain ⟨t', rfl⟩ := r'
      exact call_range_2 (range_it I1 q1 q2 q3 q4 q)

def tFor (wi : TI) (g : TG) (tb : TS) : TS := fun D σ H => wi σ H fun J H1 => ∃ W : Nat → Nat → St → Hp → Prop, (∃ m, W 0 m σ H1) ∧ ∀ i m σ H, W i m σ H →
  (J.stop i H ∧ D.nx σ H) ∨ (J.go i H ∧ ∃ N : St → Hp → Prop, (∀ σ' H', N σ' H' → ∃ m', m' < m ∧ W (i + 1) m' σ' H') ∧ ∀ x H', J.yld i H x H' → g x σ H' fun σ2 H2 => tb { D with nx := N, ct := N, bk := D.nx } σ2 H2)
def pinsAt (fp : List Addr) (h : Heap) : List (Addr × Obj) := fp.filterMap fun b => (h.get? b).map fun o => (b, o)
theorem mem_pinsAt {fp : List Addr} {h : Heap} {b : Addr} {o : Obj} (hb : b ∈ fp) (e : h.get? b = some o) : (b, o) ∈ pinsAt fp h := List.mem_filterMap.mpr ⟨b, hb, by rw [e]; rfl⟩
theorem of_pinsAt {fp : List Addr} {h : Heap} {p : Addr × Obj} (hp : p ∈ pinsAt fp h) : p.1 ∈ fp ∧ h.get? p.1 = some p.2 := by
  obtain ⟨b, hb, e⟩ := List.mem_filterMap.mp hp
  cases q : h.get? b with
  | none => rw [q] at e; cases e
  | some o =>
    rw [q] at e
    have e' : (b, o) = p := Option.some.inj e
    subst e'
    exact ⟨hb, q⟩
theorem Inv.pinned {pins : List (Addr × Obj)} {σ : St} {H : Hp} {s : Shared} {fp : List Addr} (I : Inv X pins σ H s) (hf : ∀ b ∈ fp, FpOk X pins H b) (ho : ∀ b ∈ fp, ∃ o, s.heap.get? b = some o ∧ ∀ v, o.data ≠ .cell v) : Inv X (pins ++ pinsAt fp s.heap) σ H s :=
  I.pins_of fun p hp => (List.mem_append.mp hp).elim (fun z => I.pin p (List.mem_append_right _ z)) fun z => by
    obtain ⟨hb, e⟩ := of_pinsAt z
    obtain ⟨f0, f1, f2, _⟩ := hf p.1 hb
    obtain ⟨o, e', d⟩ := ho p.1 hb
    rw [e] at e'; cases e'
    exact ⟨e, f0, f1, f2, d⟩
theorem Inv.unpinned {pins pl : List (Addr × Obj)} {σ : St} {H : Hp} {s : Shared} (I : Inv X (pins ++ pl) σ H s) : Inv X pins σ H s := I.pins_of fun p hp => I.pin p (List.mem_append_right _ (List.mem_append_left _ hp))
theorem ps_for {iter : Expr} {body : List Stmt} {wi : TI} {g : TG} {tb : TS} {pos : Pos} (hp : PassesOwn (model X.prog X.w) X.A X.env X.xe) (hc : X.calm = true) (hi : PI X tg iter wi) (hg : PG X tg g) (hb : PSs X body tb)
    (hs : ∀ x, foldedSetIterable iter X.env x = pure x := by intro _; rfl) : PS X (.For tg iter body [] pos) (tFor wi g tb) := by
  intro pins s σ H D I h
  refine wpAny_For (thn (hi pins s σ H _ I h) fun v s1 h1 => thn h1 fun itv s2 h2 => ?_) hs
  obtain ⟨it, fp, tn, J, H2, e, I2, T, st2, f2, W, ⟨m0, w0⟩, turn⟩ := h2
  subst e
  -- what stays true of the iterator's objects through the loop
  have stat : ∀ {H' : Hp}, (∀ b ∈ fp, H' b = none) → ∀ b ∈ fp, FpOk X pins H' b := fun hn b hb => ⟨hn b hb, (f2 b hb).2⟩
  refine codeAny_forLoop_any (fun n s' => ∃ i σ' H', Inv X pins σ' H' s' ∧ tn i s'.heap ∧ (∀ b ∈ fp, H' b = none) ∧ W i n σ' H') ?_ m0 ⟨0, σ, H2, I2, st2, fun b hb => (f2 b hb).1, w0⟩
  rintro n s3 ⟨i, σ3, H3, I3, st3, fr3, w3⟩
  rcases turn i n σ3 H3 w3 with ⟨stop, qn⟩ | ⟨go, N, hN, step⟩
  · refine wpAny_passesOwn hp (thn (T.done X rfl rfl rfl hc i pins s3 σ3 H3 X.xe I3 (stat fr3) st3 stop) fun r s4 ⟨hr, I4⟩ => ?_)
    subst hr
    exact wpAny_execs_nil ⟨σ3, H3, I4, qn⟩
  · refine wpAny_passesOwn hp (thn (T.item X rfl rfl rfl hc i pins s3 σ3 H3 X.xe I3 (stat fr3) st3 go) fun r s4 ⟨u, hr, h4⟩ => ?_)
    subst hr
    refine wpAny_passesOwn hp (thn h4 fun _ s5 ⟨x, H5, I5, r5, y5, st5, fr5⟩ => ?_)
    have I5' := I5.pinned (stat fr5) (T.obj _ _ st5)
    refine wpAny_passesOwn hp (thn (hg _ s5 σ3 H5 x u _ I5' r5 (step x H5 y5)) fun _ s6 ⟨σ6, H6, I6, q6⟩ => ?_)
    refine wpAny_passesOwn hp (thn (hb _ s6 σ6 H6 _ I6 q6) fun f s7 q7 => ?_)
    have again : ∀ {σ7 : St} {H7 : Hp}, Inv X (pins ++ pinsAt fp s5.heap) σ7 H7 s7 → N σ7 H7 → ∃ m, m < n ∧ ∃ i σ' H', Inv X pins σ' H' s7 ∧ tn i s7.heap ∧ (∀ b ∈ fp, H' b = none) ∧ W i m σ' H' := fun {σ7 H7} I7 n7 => by
      obtain ⟨m', hm, w7⟩ := hN σ7 H7 n7
      refine ⟨m', hm, i + 1, σ7, H7, I7.unpinned, T.keep _ _ _ st5 fun b hb o e => (I7.pin (b, o) (List.mem_append_right _ (List.mem_append_right _ (mem_pinsAt hb e)))).1, fun b hb => ?_, w7⟩
      obtain ⟨o, e, d⟩ := T.obj _ _ st5 b hb
      exact (I7.pin (b, o) (List.mem_append_right _ (List.mem_append_right _ (mem_pinsAt hb e)))).2.1
    cases f with
    | next => obtain ⟨σ7, H7, I7, n7⟩ := q7; exact again I7 n7
    | cont => obtain ⟨σ7, H7, I7, n7⟩ := q7; exact again I7 n7
    | brk => obtain ⟨σ7, H7, I7, q7⟩ := q7; exact ⟨σ7, H7, I7.unpinned, q7⟩
    | ret v => obtain ⟨x7, σ7, H7, I7, r7, q7⟩ := q7; exact ⟨x7, σ7, H7, I7.unpinned, r7, q7⟩
end

theorem for_list {K : PySem.W.Frag} {a : Addr} {xs : List V} {g : TG} {tb : TS} {D : Ends} {σ : St} {H : Hp} (Pv : Nat → St → Hp → Prop) (h0 : Pv 0 σ H) (hl : ∀ i σ H, i ≤ xs.length → Pv i σ H → SqL K H a xs)
    (hs : ∀ i x σ H, xs[i]? = some x → Pv i σ H → g x σ H fun σ2 H2 => tb { D with nx := Pv (i + 1), ct := Pv (i + 1), bk := D.nx } σ2 H2) (hd : ∀ σ H, Pv xs.length σ H → D.nx σ H) :
    ∃ W : Nat → Nat → St → Hp → Prop, (∃ m, W 0 m σ H) ∧ ∀ i m σ H, W i m σ H →
      ((Itl K a).stop i H ∧ D.nx σ H) ∨ ((Itl K a).go i H ∧ ∃ N : St → Hp → Prop, (∀ σ' H', N σ' H' → ∃ m', m' < m ∧ W (i + 1) m' σ' H') ∧ ∀ x H', (Itl K a).yld i H x H' → g x σ H' fun σ2 H2 => tb { D with nx := N, ct := N, bk := D.nx } σ2 H2) := by
  refine ⟨fun i m σ H => m = xs.length - i ∧ i ≤ xs.length ∧ Pv i σ H, ⟨xs.length, by simp, Nat.zero_le _, h0⟩, ?_⟩
  rintro i m σ H ⟨rfl, hi, p⟩
  have q := hl i σ H hi p
  by_cases hlt : i < xs.length
  · refine .inr ⟨⟨xs, xs[i], q, by simp [hlt]⟩, Pv (i + 1), fun σ' H' p' => ⟨xs.length - (i + 1), by omega, rfl, hlt, p'⟩, fun x H' y => ?_⟩
    obtain ⟨e, y⟩ := y
    subst e
    exact hs i x σ _ (y xs q) p
  · have e : i = xs.length := by omega
    subst e
    exact .inl ⟨⟨xs, q, Nat.le_refl _⟩, hd σ H p⟩
theorem for_tup {K : PySem.W.Frag} {a : Addr} {xs : List V} {g : TG} {tb : TS} {D : Ends} {σ : St} {H : Hp} (Pv : Nat → St → Hp → Prop) (h0 : Pv 0 σ H) (hl : ∀ i σ H, i ≤ xs.length → Pv i σ H → SqT K H a xs)
    (hs : ∀ i x σ H, xs[i]? = some x → Pv i σ H → g x σ H fun σ2 H2 => tb { D with nx := Pv (i + 1), ct := Pv (i + 1), bk := D.nx } σ2 H2) (hd : ∀ σ H, Pv xs.length σ H → D.nx σ H) :
    ∃ W : Nat → Nat → St → Hp → Prop, (∃ m, W 0 m σ H) ∧ ∀ i m σ H, W i m σ H →
      ((Itt K a).stop i H ∧ D.nx σ H) ∨ ((Itt K a).go i H ∧ ∃ N : St → Hp → Prop, (∀ σ' H', N σ' H' → ∃ m', m' < m ∧ W (i + 1) m' σ' H') ∧ ∀ x H', (Itt K a).yld i H x H' → g x σ H' fun σ2 H2 => tb { D with nx := N, ct := N, bk := D.nx } σ2 H2) := by
  refine ⟨fun i m σ H => m = xs.length - i ∧ i ≤ xs.length ∧ Pv i σ H, ⟨xs.length, by simp, Nat.zero_le _, h0⟩, ?_⟩
  rintro i m σ H ⟨rfl, hi, p⟩
  have q := hl i σ H hi p
  by_cases hlt : i < xs.length
  · refine .inr ⟨⟨xs, xs[i], q, by simp [hlt]⟩, Pv (i + 1), fun σ' H' p' => ⟨xs.length - (i + 1), by omega, rfl, hlt, p'⟩, fun x H' y => ?_⟩
    obtain ⟨e, y⟩ := y
    subst e
    exact hs i x σ _ (y xs q) p
  · have e : i = xs.length := by omega
    subst e
    exact .inl ⟨⟨xs, q, Nat.le_refl _⟩, hd σ H p⟩
theorem for_range {lo : Int} {n : Nat} {g : TG} {tb : TS} {D : Ends} {σ : St} {H : Hp} (Pv : Nat → St → Hp → Prop) (h0 : Pv 0 σ H)
    (hs : ∀ i σ H, i < n → Pv i σ H → g (.int (lo + i)) σ H fun σ2 H2 => tb { D with nx := Pv (i + 1), ct := Pv (i + 1), bk := D.nx } σ2 H2) (hd : ∀ σ H, Pv n σ H → D.nx σ H) :
    ∃ W : Nat → Nat → St → Hp → Prop, (∃ m, W 0 m σ H) ∧ ∀ i m σ H, W i m σ H →
      ((Itr lo n).stop i H ∧ D.nx σ H) ∨ ((Itr lo n).go i H ∧ ∃ N : St → Hp → Prop, (∀ σ' H', N σ' H' → ∃ m', m' < m ∧ W (i + 1) m' σ' H') ∧ ∀ x H', (Itr lo n).yld i H x H' → g x σ H' fun σ2 H2 => tb { D with nx := N, ct := N, bk := D.nx } σ2 H2) := by
  refine ⟨fun i m σ H => m = n - i ∧ i ≤ n ∧ Pv i σ H, ⟨n, by simp, Nat.zero_le _, h0⟩, ?_⟩
  rintro i m σ H ⟨rfl, hi, p⟩
  by_cases hlt : i < n
  · refine .inr ⟨hlt, Pv (i + 1), fun σ' H' p' => ⟨n - (i + 1), by omega, rfl, hlt, p'⟩, fun x H' y => ?_⟩
    obtain ⟨e, y⟩ := y
    subst e y
    exact hs i σ _ hlt p
  · have e : i = n := by omega
    subst e
    exact .inl ⟨Nat.le_refl _, hd σ H p⟩
end L2

namespace L2
open PySem PySem.Spec PyProof.Rows

abbrev R2 := V → V → Hp → VK → Prop
def OpR (X : Cx) (f : Value → Value → Sem Value) (r : R2) : Prop :=
  ∀ (pins : List (Addr × Obj)) (s : Shared) (σ : St) (H : Hp) (x y : V) (v u : Value) (Q : VK), Inv X pins σ H s → RelV x v → RelV y u → r x y H Q →
    wpAny (model X.prog X.w) X.A (f v u) (EP X pins σ Q) X.xe s
def UnR (X : Cx) (f : Value → Sem Value) (r : V → Hp → VK → Prop) : Prop :=
  ∀ (pins : List (Addr × Obj)) (s : Shared) (σ : St) (H : Hp) (x : V) (v : Value) (Q : VK), Inv X pins σ H s → RelV x v → r x H Q →
    wpAny (model X.prog X.w) X.A (f v) (EP X pins σ Q) X.xe s
def CallR (X : Cx) (f : Value) (r : List V → Hp → VK → Prop) : Prop :=
  ∀ (pins : List (Addr × Obj)) (s : Shared) (σ : St) (H : Hp) (xs : List V) (us : List Value) (Q : VK), Inv X pins σ H s → Vals xs us → r xs H Q →
    wpAny (model X.prog X.w) X.A (call f us) (EP X pins σ Q) X.xe s
def TruR (X : Cx) (r : V → Hp → (Bool → Hp → Prop) → Prop) : Prop :=
  ∀ (pins : List (Addr × Obj)) (s : Shared) (σ : St) (H : Hp) (x : V) (v : Value) (Q : Bool → Hp → Prop), Inv X pins σ H s → RelV x v → r x H Q →
    wpAny (model X.prog X.w) X.A (truthy v) (TP X pins σ Q) X.xe s

def tOp (r : R2) (ta tb : TE) : TE := fun σ H Q => ta σ H fun x H1 => tb σ H1 fun y H2 => r x y H2 Q
def tUn (r : V → Hp → VK → Prop) (ta : TE) : TE := fun σ H Q => ta σ H fun x H1 => r x H1 Q
def rI (C : Int → Int → Prop) (g : Int → Int → V) : R2 := fun x y H Q => ∃ i j, x = .int i ∧ y = .int j ∧ C i j ∧ Q (g i j) H
def rI0 (g : Int → Int → V) : R2 := fun x y H Q => ∃ i j, x = .int i ∧ y = .int j ∧ Q (g i j) H
def rU (g : Int → V) : V → Hp → VK → Prop := fun x H Q => ∃ i, x = .int i ∧ Q (g i) H

section
variable {X : Cx} {a b c : Expr} {ta tb tc : TE} {pos : Pos}

theorem binT (ha : PE X a ta) (hb : PE X b tb) {pins : List (Addr × Obj)} {s : Shared} {σ : St} {H : Hp} {R : V → V → Hp → Prop} (I : Inv X pins σ H s)
    (h : ta σ H fun x H1 => tb σ H1 fun y H2 => R x y H2) {Q : Value → Shared → Prop} {f : Value → Value → Sem Value}
    (hf : ∀ v u s2 x y H2, Inv X pins σ H2 s2 → RelV x v → RelV y u → R x y H2 → wpAny (model X.prog X.w) X.A (f v u) Q X.xe s2) :
    wpAny (model X.prog X.w) X.A (eval a X.env) (fun v s₁ => wpAny (model X.prog X.w) X.A (eval b X.env) (fun u s₂ => wpAny (model X.prog X.w) X.A (f v u) Q X.xe s₂) X.xe s₁) X.xe s := by
  refine thn (ha pins s σ H _ I h) fun v s1 ⟨x, H1, I1, r1, q1⟩ => ?_
  refine thn (hb pins s1 σ H1 _ I1 q1) fun u s2 ⟨y, H2, I2, r2, q2⟩ => ?_
  exact hf v u s2 x y H2 I2 r1 r2 q2

theorem pe_op {op : Operator} {r : R2} (ho : OpR X (binaryOp op) r) (ha : PE X a ta) (hb : PE X b tb) : PE X (.BinOp a op b pos) (tOp r ta tb) := by
  intro pins s σ H Q I h
  exact wpAny_BinOp (binT ha hb I h fun v u s2 x y H2 I2 rx ry q => ho pins s2 σ H2 x y v u Q I2 rx ry q)
theorem pe_un {op : UnaryOp} {r : V → Hp → VK → Prop} (ho : UnR X (unaryOp op) r) (ha : PE X a ta) : PE X (.UnaryOp op a pos) (tUn r ta) := by
  intro pins s σ H Q I h
  exact UnaryOp_ (thn (ha pins s σ H _ I h) fun v s1 ⟨x, H1, I1, r1, q1⟩ => ho pins s1 σ H1 x v Q I1 r1 q1)
theorem opI {f : Value → Value → Sem Value} {C : Int → Int → Prop} {g : Int → Int → Int}
    (rule : ∀ (i j : Int) (t u : Tok) (s : Shared) (Q : Value → Shared → Prop) (E : Value → Shared → Prop), C i j → Q (.int (g i j) s.toks) { s with toks := s.toks + 1 } → wpAny (model X.prog X.w) X.A (f (.int i t) (.int j u)) Q E s) :
    OpR X f (rI C fun i j => .int (g i j)) := by
  intro pins s σ H x y v u Q I rx ry h
  obtain ⟨i, j, rfl, rfl, hc, q⟩ := h
  obtain ⟨t, rfl⟩ := rx
  obtain ⟨t', rfl⟩ := ry
  exact rule i j t t' s _ _ hc ⟨.int (g i j), H, I.tok _, ⟨_, rfl⟩, q⟩
theorem opI0 {f : Value → Value → Sem Value} {g : Int → Int → Int}
    (rule : ∀ (i j : Int) (t u : Tok) (s : Shared) (Q : Value → Shared → Prop) (E : Value → Shared → Prop), Q (.int (g i j) s.toks) { s with toks := s.toks + 1 } → wpAny (model X.prog X.w) X.A (f (.int i t) (.int j u)) Q E s) :
    OpR X f (rI0 fun i j => .int (g i j)) := by
  intro pins s σ H x y v u Q I rx ry h
  obtain ⟨i, j, rfl, rfl, q⟩ := h
  obtain ⟨t, rfl⟩ := rx
  obtain ⟨t', rfl⟩ := ry
  exact rule i j t t' s _ _ ⟨.int (g i j), H, I.tok _, ⟨_, rfl⟩, q⟩
theorem opB0 {f : Value → Value → Sem Value} {g : Int → Int → Bool}
    (rule : ∀ (i j : Int) (t u : Tok) (s : Shared) (Q : Value → Shared → Prop) (E : Value → Shared → Prop), Q (.bool (g i j)) s → wpAny (model X.prog X.w) X.A (f (.int i t) (.int j u)) Q E s) :
    OpR X f (rI0 fun i j => .bl (g i j)) := by
  intro pins s σ H x y v u Q I rx ry h
  obtain ⟨i, j, rfl, rfl, q⟩ := h
  obtain ⟨t, rfl⟩ := rx
  obtain ⟨t', rfl⟩ := ry
  exact rule i j t t' s _ _ ⟨.bl (g i j), H, I, rfl, q⟩

def CDiv (i j : Int) : Prop := 0 < j ∧ j < 1073741824
def CPow (i j : Int) : Prop := 0 ≤ j ∧ j ≤ 1000000 ∧ i.natAbs < 2 ^ 64
def CMul (i j : Int) : Prop := (-(2 ^ 64) < i ∧ i < 2 ^ 64) ∨ (-(2 ^ 64) < j ∧ j < 2 ^ 64)
theorem CMul.ok {i j : Int} (h : CMul i j) : IntMulOk i j := by
  rcases h with ⟨h1, h2⟩ | ⟨h1, h2⟩
  · exact .of_left (intBits_le_64 h1 h2)
  · exact .of_right (intBits_le_64 h1 h2)
theorem two_pow_nn (k : Nat) : (0 : Int) ≤ 2 ^ k := by
  rw [two_pow_cast]
  exact Int.natCast_nonneg _

theorem op_add : OpR X (binaryOp .Add) (rI0 fun i j => .int (i + j)) := opI0 fun _ _ _ _ _ _ _ q => add_int q
theorem op_sub : OpR X (binaryOp .Sub) (rI0 fun i j => .int (i - j)) := opI0 fun _ _ _ _ _ _ _ q => sub_int q
theorem op_fdiv : OpR X (binaryOp .FloorDiv) (rI CDiv fun i j => .int (i / j)) := opI fun i j _ _ _ _ _ hc q => by
  have h1 : (0 : Int) < j := hc.1
  have h2 : j < 1073741824 := hc.2
  exact floordiv_int (by omega) (by rw [Int.fdiv_eq_ediv_of_nonneg i (by omega)]; exact q) (.inl (PyProof.noPylong_small (by omega)))
theorem op_mod : OpR X (binaryOp .Mod) (rI (fun _ j => 0 < j) fun i j => .int (i % j)) := opI fun i j _ _ _ _ _ hc q => by
  have h1 : (0 : Int) < j := hc
  exact mod_int' (by omega) (by rw [Int.fmod_eq_emod_of_nonneg i (by omega)]; exact q)
theorem op_pow : OpR X (binaryOp .Pow) (rI CPow fun i j => .int (i ^ j.toNat)) := opI fun _ _ _ _ _ _ _ hc q => pow_int_small hc.1 hc.2.1 hc.2.2 q
theorem op_shl : OpR X (binaryOp .LShift) (rI CPow fun i j => .int (i * 2 ^ j.toNat)) := opI fun _ _ _ _ _ _ _ hc q => lshift_int_small hc.1 hc.2.1 hc.2.2 q
theorem op_shr : OpR X (binaryOp .RShift) (rI (fun _ j => 0 ≤ j) fun i j => .int (i / 2 ^ j.toNat)) := opI fun i j _ _ _ _ _ hc q =>
  rshift_int hc (by rw [Int.fdiv_eq_ediv_of_nonneg i (two_pow_nn _)]; exact q)
theorem op_xor : OpR X (binaryOp .BitXor) (rI0 fun i j => .int (Builtin.bitXor i j)) := opI0 fun _ _ _ _ _ _ _ q => xor_int q

theorem unI {f : Value → Sem Value} {g : Int → Int}
    (rule : ∀ (i : Int) (t : Tok) (s : Shared) (Q : Value → Shared → Prop) (E : Value → Shared → Prop), Q (.int (g i) s.toks) { s with toks := s.toks + 1 } → wpAny (model X.prog X.w) X.A (f (.int i t)) Q E s) :
    UnR X f (rU fun i => .int (g i)) := by
  intro pins s σ H x v Q I rx h
  obtain ⟨i, rfl, q⟩ := h
  obtain ⟨t, rfl⟩ := rx
  exact rule i t s _ _ ⟨.int (g i), H, I.tok _, ⟨_, rfl⟩, q⟩
theorem un_neg : UnR X (unaryOp .USub) (rU fun i => .int (-i)) := unI fun _ _ _ _ _ q => neg_int q
end

def scal : V → V → Bool
  | .non, .non => true | .non, .int _ => true | .int _, .non => true | .non, .bl _ => true | .bl _, .non => true | .non, .str _ => true | .str _, .non => true
  | .int _, .int _ => true | .bl _, .bl _ => true | .str _, .str _ => true | .byt _, .byt _ => true
  | .int _, .str _ => true | .str _, .int _ => true | .bl _, .str _ => true | .str _, .bl _ => true
  | _, _ => false
def rEq : R2 := fun x y H Q => scal x y = true ∧ Q (.bl (decide (x = y))) H
def rNe : R2 := fun x y H Q => scal x y = true ∧ Q (.bl (!decide (x = y))) H

theorem dec_int {i j : Int} : decide (V.int i = V.int j) = (i == j) := by
  rw [Bool.eq_iff_iff]
  simp
theorem dec_bl {i j : Bool} : decide (V.bl i = V.bl j) = (i == j) := by
  rw [Bool.eq_iff_iff]
  simp
theorem dec_str {i j : Str} : decide (V.str i = V.str j) = (i == j) := by
  rw [Bool.eq_iff_iff]
  simp
theorem dec_byt {i j : Array UInt8} : decide (V.byt i = V.byt j) = (i.toList == j.toList) := by
  rw [Bool.eq_iff_iff]
  cases i
  cases j
  simp

section
variable {X : Cx} {a b c : Expr} {ta tb tc : TE} {pos : Pos}
theorem fin_bl {pins : List (Addr × Obj)} {σ : St} {H : Hp} {s : Shared} {Q : VK} {k k' : Bool} (I : Inv X pins σ H s) (q : Q (.bl k) H) (e : k = k') : EP X pins σ Q (.bool k') s := by
  subst e
  exact ⟨.bl k, H, I, rfl, q⟩
theorem op_eq : OpR X (compareOp .Eq) rEq := by
  intro pins s σ H x y v u Q I rx ry h
  obtain ⟨hs, q⟩ := h
  cases x with
  | non =>
    cases rx
    cases y with
    | non => cases ry; exact PySem.EqNone.eq_none_none (fin_bl I q (by simp))
    | bl j => cases ry; exact PySem.EqNone.eq_none_bool (fin_bl I q (by simp))
    | int j => obtain ⟨t', rfl⟩ := ry; exact PySem.EqNone.eq_none_int (fin_bl I q (by simp))
    | str j => obtain ⟨t', rfl⟩ := ry; exact PySem.EqNone.eq_none_str (fin_bl I q (by simp))
    | _ => exact absurd (show false = true from hs) Bool.false_ne_true
  | bl i =>
    cases rx
    cases y with
    | non => cases ry; exact PySem.EqNone.eq_bool_none (fin_bl I q (by simp))
    | bl j => cases ry; exact eq_bool (fin_bl I q dec_bl)
    | str j => obtain ⟨t', rfl⟩ := ry; exact PySem.EqMixed.eq_bool_str (fin_bl I q (by simp))
    | _ => exact absurd (show false = true from hs) Bool.false_ne_true
  | int i =>
    obtain ⟨t, rfl⟩ := rx
    cases y with
    | non => cases ry; exact PySem.EqNone.eq_int_none (fin_bl I q (by simp))
    | int j => obtain ⟨t', rfl⟩ := ry; exact eq_int (fin_bl I q dec_int)
    | str j => obtain ⟨t', rfl⟩ := ry; exact PySem.EqMixed.eq_int_str (fin_bl I q (by simp))
    | _ => exact absurd (show false = true from hs) Bool.false_ne_true
  | str i =>
    obtain ⟨t, rfl⟩ := rx
    cases y with
    | non => cases ry; exact PySem.EqNone.eq_str_none (fin_bl I q (by simp))
    | bl j => cases ry; exact PySem.EqMixed.eq_str_bool (fin_bl I q (by simp))
    | int j => obtain ⟨t', rfl⟩ := ry; exact PySem.EqMixed.eq_str_int (fin_bl I q (by simp))
    | str j => obtain ⟨t', rfl⟩ := ry; exact eq_str (fin_bl I q dec_str)
    | _ => exact absurd (show false = true from hs) Bool.false_ne_true
  | byt i =>
    obtain ⟨t, rfl⟩ := rx
    cases y with
    | byt j => obtain ⟨t', rfl⟩ := ry; exact PySem.W.eq_bytes (fin_bl I q dec_byt)
    | _ => exact absurd (show false = true from hs) Bool.false_ne_true
  | _ => cases y <;> exact absurd (show false = true from hs) Bool.false_ne_true
theorem op_ne : OpR X (compareOp .NotEq) rNe := by
  intro pins s σ H x y v u Q I rx ry h
  obtain ⟨hs, q⟩ := h
  cases x with
  | non =>
    cases rx
    cases y with
    | non => cases ry; exact PySem.EqNone.ne_none_none (fin_bl I q (by simp))
    | bl j => cases ry; exact PySem.EqNone.ne_none_bool (fin_bl I q (by simp))
    | int j => obtain ⟨t', rfl⟩ := ry; exact PySem.EqNone.ne_none_int (fin_bl I q (by simp))
    | str j => obtain ⟨t', rfl⟩ := ry; exact PySem.EqNone.ne_none_str (fin_bl I q (by simp))
    | _ => exact absurd (show false = true from hs) Bool.false_ne_true
  | bl i =>
    cases rx
    cases y with
    | non => cases ry; exact PySem.EqNone.ne_bool_none (fin_bl I q (by simp))
    | bl j => cases ry; exact ne_bool (fin_bl I q (congrArg not dec_bl))
    | str j => obtain ⟨t', rfl⟩ := ry; exact PySem.EqMixed.ne_bool_str (fin_bl I q (by simp))
    | _ => exact absurd (show false = true from hs) Bool.false_ne_true
  | int i =>
    obtain ⟨t, rfl⟩ := rx
    cases y with
    | non => cases ry; exact PySem.EqNone.ne_int_none (fin_bl I q (by simp))
    | int j => obtain ⟨t', rfl⟩ := ry; exact ne_int (fin_bl I q (congrArg not dec_int))
    | str j => obtain ⟨t', rfl⟩ := ry; exact PySem.EqMixed.ne_int_str (fin_bl I q (by simp))
    | _ => exact absurd (show false = true from hs) Bool.false_ne_true
  | str i =>
    obtain ⟨t, rfl⟩ := rx
    cases y with
    | non => cases ry; exact PySem.EqNone.ne_str_none (fin_bl I q (by simp))
    | bl j => cases ry; exact PySem.EqMixed.ne_str_bool (fin_bl I q (by simp))
    | int j => obtain ⟨t', rfl⟩ := ry; exact PySem.EqMixed.ne_str_int (fin_bl I q (by simp))
    | str j => obtain ⟨t', rfl⟩ := ry; exact ne_str (fin_bl I q (congrArg not dec_str))
    | _ => exact absurd (show false = true from hs) Bool.false_ne_true
  | byt i =>
    obtain ⟨t, rfl⟩ := rx
    cases y with
    | byt j => obtain ⟨t', rfl⟩ := ry; exact PySem.W.ne_bytes (fin_bl I q (congrArg not dec_byt))
    | _ => exact absurd (show false = true from hs) Bool.false_ne_true
  | _ => cases y <;> exact absurd (show false = true from hs) Bool.false_ne_true

theorem op_lt : OpR X (compareOp .Lt) (rI0 fun i j => .bl (decide (i < j))) := opB0 fun _ _ _ _ _ _ _ q => lt_int q
theorem op_le : OpR X (compareOp .LtE) (rI0 fun i j => .bl (decide (i ≤ j))) := opB0 fun _ _ _ _ _ _ _ q => le_int q
theorem op_gt : OpR X (compareOp .Gt) (rI0 fun i j => .bl (decide (j < i))) := opB0 fun _ _ _ _ _ _ _ q => gt_int q
theorem op_isN : OpR X (compareOp .Is) (fun x y H Q => y = .non ∧ Q (.bl (decide (x = .non))) H) := by
  intro pins s σ H x y v u Q I rx ry h
  obtain ⟨rfl, q⟩ := h
  cases ry
  refine is_none_gen (fin_bl I q ?_)
  cases x <;> first
    | (cases rx; rfl)
    | (obtain ⟨t, rfl⟩ := rx; rfl)
theorem op_notN : OpR X (compareOp .IsNot) (fun x y H Q => y = .non ∧ Q (.bl (!decide (x = .non))) H) := by
  intro pins s σ H x y v u Q I rx ry h
  obtain ⟨rfl, q⟩ := h
  cases ry
  refine isnot_none_gen (fin_bl I q ?_)
  cases x <;> first
    | (cases rx; rfl)
    | (obtain ⟨t, rfl⟩ := rx; rfl)

theorem OpR.or {f : Value → Value → Sem Value} {r r' : R2} (h : OpR X f r) (h' : OpR X f r') : OpR X f (fun x y H Q => r x y H Q ∨ r' x y H Q) := by
  intro pins s σ H x y v u Q I rx ry q
  rcases q with q | q
  · exact h pins s σ H x y v u Q I rx ry q
  · exact h' pins s σ H x y v u Q I rx ry q

theorem nomark (b : Expr) {op : CmpOp} (h : op ≠ .In := by decide) (h2 : op ≠ .NotIn := by decide) : behindInMarks op b = false := by
  have e1 : (op == CmpOp.In) = false := by cases op <;> first | rfl | exact absurd rfl h
  have e2 : (op == CmpOp.NotIn) = false := by cases op <;> first | rfl | exact absurd rfl h2
  cases b <;> simp [behindInMarks, e1, e2]
theorem pe_cmpR {op : CmpOp} {r : R2} (ho : OpR X (compareOp op) r) (ha : PE X a ta) (hb : PE X b tb) (hm : behindInMarks op b = false) : PE X (.Compare a [op] [b] pos) (tOp r ta tb) := by
  intro pins s σ H Q I h
  exact wpAny_Compare1 (binT ha hb I h fun v u s2 x y H2 I2 rx ry q => ho pins s2 σ H2 x y v u Q I2 rx ry q) hm
def TruV (K : PySem.W.Frag) (x : V) (H : Hp) (k : Bool) : Prop :=
  match x with
  | .non => k = false
  | .bl b => k = b
  | .int i => k = (i != 0)
  | .str y => y.length ≤ sizeLine ∧ k = ((y.length : Int) != 0)
  | .byt y => y.size ≤ sizeLine ∧ k = ((y.size : Int) != 0)
  | .ref p => (∃ xs, SqL K H p xs ∧ k = !xs.isEmpty) ∨ (∃ xs, SqT K H p xs ∧ k = !xs.isEmpty) ∨ ∃ kvs, H p = some (.dK kvs) ∧ k = !kvs.isEmpty
  | _ => False
theorem isEmpty_kv {κ : Type} {kvs : List (κ × V)} {vs : List (κ × Value)} (r : KV kvs vs) : (!vs.isEmpty) = !kvs.isEmpty := by
  cases r <;> rfl
theorem isEmpty_of {xs : List V} {its : List Value} (r : Vals xs its) : (!its.toArray.isEmpty) = !xs.isEmpty := by
  cases r <;> simp
theorem line63 : (sizeLine : Nat) < 2 ^ 63 := by rw [sizeLine_eq]; decide
theorem tru_ok : TruR X (fun x H Q => ∃ k, TruV X.K x H k ∧ Q k H) := by
  intro pins s σ H x v Q I rx h
  obtain ⟨k, e, q⟩ := h
  have hl := line63
  have hs : sizeLine = 16777216 := sizeLine_eq
  cases x with
  | non =>
    cases rx
    have e' : k = false := e
    subst e'
    exact truthy_none ⟨H, I, q⟩
  | bl b =>
    cases rx
    have e' : k = b := e
    subst e'
    exact wpAny_truthy_bool ⟨H, I, q⟩
  | int i =>
    obtain ⟨t, rfl⟩ := rx
    have e' : k = (i != 0) := e
    subst e'
    exact PySem.P.truthy_int ⟨H, I, q⟩
  | str y =>
    obtain ⟨t, rfl⟩ := rx
    obtain ⟨hy, e'⟩ : y.length ≤ sizeLine ∧ k = ((y.length : Int) != 0) := e
    subst e'
    exact PySem.P.truthy_str (by omega) ⟨H, I.tok _, q⟩
  | byt y =>
    obtain ⟨t, rfl⟩ := rx
    obtain ⟨hy, e'⟩ : y.size ≤ sizeLine ∧ k = ((y.size : Int) != 0) := e
    subst e'
    exact PySem.W.truthy_bytes (by omega) ⟨H, I.tok _, q⟩
  | ref p =>
    cases rx
    have e' : (∃ xs, SqL X.K H p xs ∧ k = !xs.isEmpty) ∨ (∃ xs, SqT X.K H p xs ∧ k = !xs.isEmpty) ∨ ∃ kvs, H p = some (.dK kvs) ∧ k = !kvs.isEmpty := e
    rcases e' with ⟨xs, hx, e'⟩ | ⟨xs, hx, e'⟩ | ⟨kvs, hx, e'⟩
    · subst e'
      obtain ⟨its, r, pl, hz⟩ := I.list hx
      have hlen := r.length
      exact wpAny_truthy_list pl.isList (by simp only [List.size_toArray]; omega) ⟨H, I.tok _, by rw [isEmpty_of r]; exact q⟩
    · subst e'
      obtain ⟨its, r, pl, hz⟩ := I.tuple hx
      have hlen := r.length
      exact truthy_tuple pl (by simp only [List.size_toArray]; omega) ⟨H, I.tok _, by rw [isEmpty_of r]; exact q⟩
    · subst e'
      obtain ⟨hz, hS, vs, r, m⟩ : kvs.length ≤ sizeLine ∧ (p == sysModules) = false ∧ ∃ vs, KV kvs vs ∧ s.heap.DictOf (mixKind X.prog X.w) p vs := I.hok p _ hx
      have hlen : kvs.length = vs.length := Paired.length r
      exact wpAny_truthy_dict hS m (by omega) ⟨H, I.tok _, by rw [isEmpty_kv r]; exact q⟩
  | _ => exact (show False from e).elim
theorem op_add_str : OpR X (binaryOp .Add) (fun x y H Q => ∃ i j, x = .str i ∧ y = .str j ∧ i.length + j.length ≤ sizeLine ∧ Q (.str (i ++ j)) H) := by
  intro pins s σ H x y v u Q I rx ry h
  obtain ⟨i, j, rfl, rfl, hz, q⟩ := h
  obtain ⟨t, rfl⟩ := rx
  obtain ⟨t', rfl⟩ := ry
  exact add_str (fun t' tk => ⟨.str (i ++ j), H, I.tok _, ⟨_, rfl⟩, q⟩) hz
theorem vals1 {x : V} {us : List Value} (r : Vals [x] us) : ∃ u, us = [u] ∧ RelV x u := by
  cases r with
  | cons r1 r2 => cases r2; exact ⟨_, rfl, r1⟩
theorem vals2 {x y : V} {us : List Value} (r : Vals [x, y] us) : ∃ u w', us = [u, w'] ∧ RelV x u ∧ RelV y w' := by
  cases r with
  | cons r1 r2 =>
    cases r2 with
    | cons r3 r4 => cases r4; exact ⟨_, _, rfl, r1, r3⟩
theorem call_str_int : CallR X (.type "str") (fun xs H Q => ∃ i, xs = [.int i] ∧ i.natAbs.log2 < 1920 ∧ Q (.str (toString i)) H) := by
  intro pins s σ H xs us Q I r h
  obtain ⟨i, rfl, hz, q⟩ := h
  obtain ⟨u, rfl, t, rfl⟩ := vals1 r
  exact PySem.P.str_of_int hz ⟨.str _, H, I.tok _, ⟨_, rfl⟩, q⟩
def LenV (K : PySem.W.Frag) (x : V) (H : Hp) (n : Nat) : Prop :=
  match x with
  | .str y => y.length ≤ sizeLine ∧ n = y.length
  | .byt y => y.size ≤ sizeLine ∧ n = y.size
  | .ref p => (∃ xs, SqL K H p xs ∧ n = xs.length) ∨ ∃ xs, SqT K H p xs ∧ n = xs.length
  | _ => False
theorem call_len : CallR X (.builtin "len") (fun xs H Q => ∃ x n, xs = [x] ∧ LenV X.K x H n ∧ Q (.int n) H) := by
  intro pins s σ H xs us Q I r h
  obtain ⟨x, n, rfl, e, q⟩ := h
  obtain ⟨u, rfl, rx⟩ := vals1 r
  have hl := line63
  have hs : sizeLine = 16777216 := sizeLine_eq
  cases x with
  | str y =>
    obtain ⟨t, rfl⟩ := rx
    obtain ⟨hy, e'⟩ : y.length ≤ sizeLine ∧ n = y.length := e
    subst e'
    exact len_str (by omega) ⟨.int _, H, I.tok _, ⟨_, rfl⟩, q⟩
  | byt y =>
    obtain ⟨t, rfl⟩ := rx
    obtain ⟨hy, e'⟩ : y.size ≤ sizeLine ∧ n = y.size := e
    subst e'
    exact PySem.W.len_bytes (by omega) ⟨.int _, H, I.tok _, ⟨_, rfl⟩, q⟩
  | ref p =>
    cases rx
    have e' : (∃ xs, SqL X.K H p xs ∧ n = xs.length) ∨ ∃ xs, SqT X.K H p xs ∧ n = xs.length := e
    rcases e' with ⟨xs, hx, e'⟩ | ⟨xs, hx, e'⟩
    · subst e'
      obtain ⟨its, r', pl, hz⟩ := I.list hx
      have hlen := r'.length
      exact Calls.call_len_list pl.isList (by simp only [List.size_toArray]; omega) ⟨.int xs.length, H, I.tok _, ⟨_, by simp only [List.size_toArray]; rw [hlen]⟩, q⟩
    · subst e'
      obtain ⟨its, r', pl, hz⟩ := I.tuple hx
      have hlen := r'.length
      exact len_tuple pl (by simp only [List.size_toArray]; omega) ⟨.int xs.length, H, I.tok _, ⟨_, by simp only [List.size_toArray]; rw [hlen]⟩, q⟩
  | _ => exact (show False from e).elim
end
end L2

namespace L2
open PySem PySem.Spec PyProof.Rows

structure ObjM (h : Heap) (x dx C : Addr) (mA : Str → Option Value) : Prop where
  obj : h.get? x = some (PySem.W.instObj C dx)
  ns : h.Ns1 dx mA
  ne : dx ≠ x

theorem lookIn_ns {h : Heap} {dx : Addr} {mA : Str → Option Value} (n : h.Ns1 dx mA) : ∃ od, h.get? dx = some od ∧ ∀ name, PySem.W.lookIn name od = some (mA name) := by
  obtain ⟨o, es, ep, ho, hd, hk, _, hm⟩ := n
  refine ⟨o, ho, fun name => ?_⟩
  have e := hm name
  unfold nsFind findBy at e
  rw [← Array.find?_toList] at e
  unfold PySem.W.lookIn
  rw [hd]
  dsimp only
  split
  · rename_i y q
    rw [q] at e
    exact congrArg some e
  · rename_i q
    rw [q] at e
    have a : es.toList.any (·.refKey) = false := by
      rw [List.any_eq_false]
      intro y hy
      obtain ⟨z, t, hkey⟩ := hk y (Array.mem_toList_iff.mp hy)
      simp [DictEntry.refKey, hkey]
    have a' : ¬ es.toList.any (·.refKey) = true := by rw [a]; exact Bool.false_ne_true
    rw [if_neg a']
    exact congrArg some e

theorem ObjM.look {h : Heap} {x dx C : Addr} {mA : Str → Option Value} (I : ObjM h x dx C mA) : ∃ od, PySem.W.InstAt h x (PySem.W.instObj C dx) C (some od) ∧ ∀ name, PySem.W.lookIn name od = some (mA name) :=
  let ⟨od, ho, hl⟩ := lookIn_ns I.ns
  ⟨od, ⟨I.obj, rfl, rfl, ho⟩, hl⟩

section
variable {prog : Program} {w : World} {A : Around} {E : Value → Shared → Prop} {s : Shared} {K : PySem.W.Frag} {x dx C f : Addr} {mA : Str → Option Value} {name : Str} {v : Value}

end

theorem RelO.some_of {v : V} {o : Option Value} (r : RelO (some v) o) : ∃ u, o = some u ∧ RelV v u := by
  cases o with
  | none => exact (show False from r).elim
  | some u => exact ⟨u, rfl, r⟩
theorem RelO.none_of {o : Option Value} (r : RelO none o) : o = none := by
  cases o with
  | none => rfl
  | some u => exact (show False from r).elim
section
variable {P : Program} {w : World} {H H' : Hp} {h h' : Heap} {a C dx : Addr} {fs fs' : List (Str × V)}
theorem ins_get (hok : HOk P w H h) (e : H a = some (.ins C dx fs)) : ∃ mA, ObjM h a dx C mA ∧ (∀ f, RelO (fs.lookup f) (mA f)) ∧ PySem.Within mA (fs.map (·.1)) ∧ fs.length ≤ 1000 ∧ H dx = some (.own a) := by
  obtain ⟨d, z, ne, ob, mA, n, r, q⟩ := (show ObjOk P w H h a (.ins C dx fs) from hok a _ e)
  exact ⟨mA, ⟨ob, n, ne⟩, r, q, z, d⟩
end

structure Cls (K : PySem.W.Frag) (C : Addr) : Prop where
  pg : PySem.W.plainGet K C Str.empty = true
  hd : PySem.W.hasDictIn K C = true
  po : PySem.W.plainOver K C = true
  sa : PySem.W.findIn K (.ref C) "__setattr__" = some (some (.builtin "object.__setattr__"))
theorem Cls.get {K : PySem.W.Frag} {C : Addr} (c : Cls K C) (f : Str) : PySem.W.plainGet K C f = true := c.pg
structure Con (K : PySem.W.Frag) (C : Addr) (f : Str) (v : V) (u : Value) : Prop where
  at_ : PySem.W.findIn K (.ref C) f = some (some u)
  rel : RelV v u
  get : PySem.W.specialIn K u "__get__" = some none
  cp : PySem.W.copiedNames.contains f = false
structure Meth (K : PySem.W.Frag) (C : Addr) (m : Str) (f : Addr) : Prop where
  at_ : PySem.W.findIn K (.ref C) m = some (some (.ref f))
  fn : PySem.W.isFn K (.ref f) = true
  kp : PySem.W.keepIn K (.ref f) = true

section
variable {X : Cx} {pins : List (Addr × Obj)} {σ : St} {H : Hp} {s : Shared} {a C dx : Addr} {fs : List (Str × V)} {f : Str} {v : V} {A : Around} {E : Value → Shared → Prop}

theorem Inv.made (I : Inv X pins σ H s) : Inv X pins σ (upd (upd H s.heap.objs.size (.own (s.heap.objs.size + 1))) (s.heap.objs.size + 1) (.ins C s.heap.objs.size []))
    { s with heap := (s.heap.push PySem.W.emptyDict).push (PySem.W.instObj C s.heap.objs.size) } := by
  have e1 : (s.heap.push PySem.W.emptyDict).get? s.heap.objs.size = some PySem.W.emptyDict := Heap.get?_push_size s.heap rfl
  have e2 : ((s.heap.push PySem.W.emptyDict).push (PySem.W.instObj C s.heap.objs.size)).get? (s.heap.objs.size + 1) = some (PySem.W.instObj C s.heap.objs.size) := by
    have := Heap.get?_push_size (s.heap.push PySem.W.emptyDict) (o := PySem.W.instObj C s.heap.objs.size) rfl
    rwa [Heap.size_push] at this
  have e3 : (s.heap.push PySem.W.emptyDict).Ns s.heap.objs.size (fun _ => none) := ⟨PySem.W.emptyDict, #[], _, e1, rfl, (fun e he => absurd he (by simp)), fun _ => rfl⟩
  have I1 := I.laid (a := s.heap.objs.size) (o := .own (s.heap.objs.size + 1)) (h' := s.heap.push PySem.W.emptyDict) (t' := s.toks) (fun b u q => Heap.get?_push_of_some _ q) (Nat.le_refl _) ⟨_, e1⟩
  refine I1.laid (a := s.heap.objs.size + 1) (o := .ins C s.heap.objs.size []) (t' := s.toks) (fun b u q => Heap.get?_push_of_some _ q) (Nat.le_of_eq (Heap.size_push _ _)) ?_
  have ne : s.heap.objs.size ≠ s.heap.objs.size + 1 := Nat.ne_of_lt (Nat.lt_succ_self _)
  refine ⟨by rw [upd_ne ne, upd_same], Nat.zero_le _, ne, e2, fun _ => none, (Heap.Ns1.of_empty e3).at fun o q => Heap.get?_push_of_some _ q, fun _ => True.intro, fun y hy => absurd rfl hy⟩

end

section
variable {X : Cx} {o e value : Expr} {f : Str} {pos pos' tpos : Pos} {ta tv : TE}
end

section
variable {X : Cx} {pins : List (Addr × Obj)} {σ : St} {H : Hp} {s : Shared} {A : Around} {E : Value → Shared → Prop} {Q : Value → Shared → Prop} {c : Value} {b : Bool}
inductive TyOf (K : PySem.W.Frag) (H : Hp) : V → Value → Prop where
  | non : TyOf K H .non (.type "NoneType")
  | bl (x : Bool) : TyOf K H (.bl x) (.type "bool")
  | int (i : Int) : TyOf K H (.int i) (.type "int")
  | str (x : Str) : TyOf K H (.str x) (.type "str")
  | flt (x : UInt64) : TyOf K H (.flt x) (.type "float")
  | lst {a : Addr} {xs : List V} (e : H a = some (.lst xs)) : TyOf K H (.ref a) (.type "list")
  | frz {a : Addr} {o : Obj} {xs : List V} (e : H a = some (.frz o (.lst xs))) : TyOf K H (.ref a) (.type "list")
  | tup {a : Addr} {xs : List V} (e : H a = some (.tup xs)) : TyOf K H (.ref a) (.type "tuple")
  | dK {a : Addr} {kvs : List (Key × V)} (e : H a = some (.dK kvs)) : TyOf K H (.ref a) (.type "dict")
  | dT {a : Addr} {kvs : List (List Key × V)} (e : H a = some (.dT kvs)) : TyOf K H (.ref a) (.type "dict")
  | ins {a C dx : Addr} {fs : List (Str × V)} (e : H a = some (.ins C dx fs)) (cl : Cls K C) (ha : PySem.W.findIn K (.ref C) "__class__" = some (some (.builtin "object.__class__")))
      (hn : PySem.W.specialIn K (.builtin "object.__class__") "__get__" = some (some (.builtin "getset_descriptor.__get__"))) (htk : PySem.W.takesIn K (.builtin "object.__class__") = some true)
      (hm : PySem.W.mroIn K C (.type "object") = some true) : TyOf K H (.ref a) (.ref C)
theorem isinst_ok {x : V} {u t : Value} (I : Inv X pins σ H s) (rx : RelV x u) (ty : TyOf X.K H x t) (e : PySem.W.kitOne X.K t c = some b) (h : ∀ tk, Q (.bool b) { s with toks := tk }) :
    wpAny (model X.prog X.w) A (call (.builtin "isinstance") [u, c]) Q E s := by
  cases ty with
  | non => cases (show u = Value.none from rx); exact PySem.W.kia_one PySem.W.kitx_none I.kIn True.intro e (fun z => nomatch z) h
  | bl y => cases (show u = Value.bool y from rx); exact PySem.W.kia_one PySem.W.kitx_bool I.kIn True.intro e (fun z => nomatch z) h
  | int i => obtain ⟨t, q⟩ := (show ∃ t, u = Value.int i t from rx); cases q; exact PySem.W.kia_one PySem.W.kitx_int I.kIn True.intro e (fun z => nomatch z) h
  | str y => obtain ⟨t, q⟩ := (show ∃ t, u = Value.str y t from rx); cases q; exact PySem.W.kia_one PySem.W.kitx_str I.kIn True.intro e (fun z => nomatch z) h
  | flt y => obtain ⟨t, q⟩ := (show ∃ t, u = Value.float y t from rx); cases q; exact PySem.W.kia_one PySem.W.kitx_float I.kIn True.intro e (fun z => nomatch z) h
  | @lst a xs ea =>
    cases (show u = Value.ref a from rx)
    obtain ⟨_, _, n, _, h1⟩ := (show ObjOk X.prog X.w H s.heap a (.lst xs) from I.hok a _ ea)
    exact PySem.W.kia_one PySem.W.kitx_list I.kIn ⟨_, h1, rfl⟩ e (fun z => nomatch z) h
  | @frz a ob xs ea =>
    cases (show u = Value.ref a from rx)
    obtain ⟨_, _, _, n, _, h1⟩ := (show ObjOk X.prog X.w H s.heap a (.frz ob (.lst xs)) from I.hok a _ ea)
    exact PySem.W.kia_one PySem.W.kitx_list I.kIn ⟨_, h1, rfl⟩ e (fun z => nomatch z) h
  | @tup a xs ea =>
    cases (show u = Value.ref a from rx)
    obtain ⟨_, _, _, p⟩ := (show ObjOk X.prog X.w H s.heap a (.tup xs) from I.hok a _ ea)
    obtain ⟨o, h1, h2, _⟩ := p
    exact PySem.W.kia_one PySem.W.kitx_tuple I.kIn ⟨o, h1, h2⟩ e (fun z => nomatch z) h
  | @dK a kvs ea =>
    cases (show u = Value.ref a from rx)
    obtain ⟨_, _, vs, _, p⟩ := (show ObjOk X.prog X.w H s.heap a (.dK kvs) from I.hok a _ ea)
    obtain ⟨o, es, ep, h1, h2, _⟩ := p
    exact PySem.W.kia_one PySem.W.kitx_dict I.kIn ⟨o, h1, h2.1⟩ e (fun z => nomatch z) h
  | @dT a kvs ea =>
    cases (show u = Value.ref a from rx)
    obtain ⟨_, _, xs, _, o, es, ep, h1, h2, _⟩ := (show ObjOk X.prog X.w H s.heap a (.dT kvs) from I.hok a _ ea)
    exact PySem.W.kia_one PySem.W.kitx_dict I.kIn ⟨o, h1, h2.1⟩ e (fun z => nomatch z) h
  | @ins a C dx fs ea cl ha hn htk hm =>
    cases (show u = Value.ref a from rx)
    obtain ⟨mA, O, _⟩ := ins_get I.hok ea
    obtain ⟨od, J, _⟩ := O.look
    exact PySem.W.kia_one (PySem.W.kitx_own (cl.get _) cl.hd ha hn htk hm) I.kIn J e (fun z => nomatch z) h
end
end L2

namespace L2
open PySem PySem.Spec PyProof.Rows

structure Room (k : Nat) (A : Around) : Prop where
  hd : A.handled = none
  dp : A.depth + 3 * k + 5 < recursionLimit
  un : A.units + 16 * k + 200 < cLine
theorem Room.mono {j k : Nat} {A : Around} (r : Room k A) (h : j ≤ k) : Room j A := ⟨r.hd, by have := r.dp; omega, by have := r.un; omega⟩
theorem Room.deeper {k : Nat} {A : Around} (r : Room (k + 1) A) (env : Env) : Room k (A.deeper env) :=
  ⟨r.hd, by have := r.dp; show A.depth + 1 + 3 * k + 5 < _; omega, by have := r.un; show A.units + 3 + 16 * k + 200 < _; omega⟩
theorem Room.in1 {k : Nat} {A : Around} (r : Room (k + 1) A) : Room k A.in1 :=
  ⟨r.hd, by have := r.dp; show A.depth + 3 * k + 5 < _; omega, by have := r.un; show A.units + 1 + 16 * k + 200 < _; omega⟩
theorem make_depth {A : Around} {C : Addr} {us : List Value} {kw : List (Str × Value)} : (A.under (.builtin "type.__call__" ⟨.ref C :: us, kw⟩)).depth = A.depth + 1 := by
  first | rfl | simp [Around.under, Code.weight, Code.isCreation, Code.isGuard, Code.isCaller, Code.frames, Code.isFrame, guardIds]
theorem make_units {A : Around} {C : Addr} {us : List Value} {kw : List (Str × Value)} : (A.under (.builtin "type.__call__" ⟨.ref C :: us, kw⟩)).units = A.units + 1 := by
  first | rfl | simp [Around.under, Code.cUnits, Code.frames, Code.isFrame]
theorem Room.make {k : Nat} {A : Around} (r : Room (k + 1) A) (C : Addr) (us : List Value) (kw : List (Str × Value)) : Room k (A.under (.builtin "type.__call__" ⟨.ref C :: us, kw⟩)) :=
  ⟨r.hd, by have := r.dp; rw [make_depth]; omega, by have := r.un; rw [make_units]; omega⟩
theorem Room.depth {k : Nat} {A : Around} (r : Room k A) : A.depth < recursionLimit := by have := r.dp; omega
theorem Room.units {k : Nat} {A : Around} (r : Room k A) : A.units + 64 < cLine := by have := r.un; omega
def tNil : TA := fun _ H Q => Q [] H
def tCons (ta : TE) (tr : TA) : TA := fun σ H Q => ta σ H fun x H1 => tr σ H1 fun xs H2 => Q (x :: xs) H2
section
variable {X : Cx} {e : Expr} {es : List Expr} {te : TE} {t : TA} {pos : Pos}
theorem pa_nil : PA X [] tNil := fun _ _ _ _ H Q I h => Calls.spliced_nil ⟨[], H, I, .nil, h⟩
theorem pa_cons (ha : PE X e te) (hr : PA X es t) (hs : starEach (e :: es) X.env = (false, eval e X.env) :: starEach es X.env := by rfl) : PA X (e :: es) (tCons te t) := by
  intro pos pins s σ H Q I h
  rw [hs]
  show wpAny _ _ (spliced ((false, eval e X.env) :: backTo pos (starEach es X.env))) _ _ s
  refine Calls.spliced_cons (thn (ha pins s σ H _ I h) fun u s1 ⟨x, H1, I1, r1, q1⟩ => ?_)
  exact thn (hr pos pins s1 σ H1 _ I1 q1) fun us s2 ⟨xs, H2, I2, r2, q2⟩ => ⟨x :: xs, H2, I2, .cons r1 r2, q2⟩

def tTup (t : TA) : TE := fun σ H Q => t σ H fun xs H1 => xs.length ≤ sizeLine ∧ ∀ p, H1 p = none → Q (.ref p) (upd H1 p (.tup xs))
def tLst (t : TA) : TE := fun σ H Q => t σ H fun xs H1 => xs.length ≤ sizeLine ∧ ∀ p, H1 p = none → Q (.ref p) (upd H1 p (.lst xs))
theorem pe_tup {x1} (h : PA X es t) : PE X (.Tuple es x1 pos) (tTup t) := by
  intro pins s σ H Q I hq
  refine wpAny_Tuple_spliced (thn (h pos pins s σ H _ I hq) fun us s1 ⟨xs, H1, I1, r, z, q⟩ => ⟨by rw [← r.length]; exact z, ?_⟩)
  have hf : H1 s1.heap.objs.size = none := I1.hok.fresh (Nat.le_refl _)
  refine ⟨.ref s1.heap.objs.size, upd H1 s1.heap.objs.size (.tup xs), I1.laid (t' := s1.toks) (fun b u e => Heap.get?_push_of_some _ e) (Nat.le_refl _) ?_, rfl, q _ hf⟩
  exact ⟨z, us, r, ⟨_, Heap.get?_push_size _ rfl, rfl, _, rfl⟩⟩
theorem pe_lst (h : PA X es t) : PE X (.List es pos) (tLst t) := by
  intro pins s σ H Q I hq
  refine wpAny_List_spliced (thn (h pos pins s σ H _ I hq) fun us s1 ⟨xs, H1, I1, r, z, q⟩ => ⟨by rw [← r.length]; exact z, ?_⟩)
  have hf : H1 s1.heap.objs.size = none := I1.hok.fresh (Nat.le_refl _)
  refine ⟨.ref s1.heap.objs.size, upd H1 s1.heap.objs.size (.lst xs), I1.laid (t' := s1.toks) (fun b u e => Heap.get?_push_of_some _ e) (Nat.le_refl _) ?_, rfl, q _ hf⟩
  exact ⟨z, us, 0, r, Heap.get?_push_size _ rfl⟩
end

abbrev Sp := List V → Hp → VK → XK → Prop
abbrev CXT := List Env → Hp → Shared → XK → Value → Shared → Prop

structure Env0 (P : Program) (w : World) (K : PySem.W.Frag) (mg : Str → Option Value) (base : Heap) (A : Around) (outer : List Env) (s : Shared) (H : Hp) : Prop where
  frames : A.frames = some outer
  mod : Mod K mg base
  bs : ∀ b o, base.get? b = some o → s.heap.get? b = some o ∧ H b = none
  bsz : base.objs.size ≤ s.heap.objs.size
  funs : s.heap.FunFrames base outer
  frf : ∀ b ∈ frs outer, H b = none
  hok : HOk P w H s.heap
  bare : AllBare s.gens
def CE (outer : List Env) (P : Program) (w : World) (H : Hp) (s : Shared) (Q : VK) (u : Value) (s' : Shared) : Prop :=
  ∃ v H', s'.os = s.os ∧ AllBare s'.gens ∧ Un (frs outer) [] H H' s.heap s'.heap ∧ HOk P w H' s'.heap ∧ RelV v u ∧ Q v H'
def CR (CX : CXT) (outer : List Env) (P : Program) (w : World) (H : Hp) (s : Shared) (Q : VK) (E : XK) (r : Result) (s' : Shared) : Prop :=
  match r with
  | .ok (.ret u) => CE outer P w H s Q u s'
  | .ok _ => False
  | .error e => CX outer H s E e s'
structure FnOk (P : Program) (w : World) (K : PySem.W.Frag) (mg : Str → Option Value) (base : Heap) (CX : CXT) (k : Nat) (f : Addr) (fd : FuncData) (ps : List Str) (sp : Sp) : Prop where
  len : ∀ vs H Q E, sp vs H Q E → vs.length = ps.length
  run : ∀ (A : Around) (outer : List Env) (s : Shared) (H : Hp) (args : Args) (us : List Value) (vs : List V) (Q : VK) (E : XK), Room k A → Env0 P w K mg base A outer s H → BindsTo s fd args (ps.zip us) → Vals vs us → sp vs H Q E →
    codeAny (model P w) A (.call (.ref f) args) (CR CX outer P w H s Q E) s
theorem FnOk.mono {P : Program} {w : World} {K : PySem.W.Frag} {mg : Str → Option Value} {base : Heap} {CX : CXT} {j k : Nat} {f : Addr} {fd : FuncData} {ps : List Str} {sp : Sp} (F : FnOk P w K mg base CX j f fd ps sp) (h : j ≤ k) :
    FnOk P w K mg base CX k f fd ps sp := ⟨F.len, fun A outer s H args us vs Q E hr => F.run A outer s H args us vs Q E (hr.mono h)⟩
theorem FnOk.imp {P : Program} {w : World} {K : PySem.W.Frag} {mg : Str → Option Value} {base : Heap} {CX : CXT} {k : Nat} {f : Addr} {fd : FuncData} {ps : List Str} {sp sp' : Sp} (F : FnOk P w K mg base CX k f fd ps sp)
    (h : ∀ vs H Q E, sp' vs H Q E → sp vs H Q E) : FnOk P w K mg base CX k f fd ps sp' :=
  ⟨fun vs H Q E q => F.len vs H Q E (h _ _ _ _ q), fun A outer s H args us vs Q E hr he hb hv hs => F.run A outer s H args us vs Q E hr he hb hv (h _ _ _ _ hs)⟩

theorem Env0.make {P : Program} {w : World} {K : PySem.W.Frag} {mg : Str → Option Value} {base : Heap} {A : Around} {outer : List Env} {s : Shared} {H : Hp} (e : Env0 P w K mg base A outer s H) (C : Addr) (us : List Value) (kw : List (Str × Value)) :
    Env0 P w K mg base (A.under (.builtin "type.__call__" ⟨.ref C :: us, kw⟩)) outer s H := ⟨by first | exact e.frames | (simpa [Around.under, Code.envs, Code.isFrame, pushEnvs] using e.frames), e.mod, e.bs, e.bsz, e.funs, e.frf, e.hok, e.bare⟩
theorem Env0.in1 {P : Program} {w : World} {K : PySem.W.Frag} {mg : Str → Option Value} {base : Heap} {A : Around} {outer : List Env} {s : Shared} {H : Hp} (e : Env0 P w K mg base A outer s H) :
    Env0 P w K mg base A.in1 outer s H := ⟨e.frames, e.mod, e.bs, e.bsz, e.funs, e.frf, e.hok, e.bare⟩

section
variable {X : Cx} {pins : List (Addr × Obj)} {σ : St} {H : Hp} {s s' : Shared}
theorem Inv.env0 (I : Inv X pins σ H s) : Env0 X.prog X.w X.K X.mg X.base X.A X.stack s H :=
  ⟨I.ok.frames, I.ok.mod, I.bs, Nat.le_trans I.ok.bsz I.sz, I.stack, I.stkFree, I.hok, I.bare⟩
theorem Inv.after {Q : VK} {u : Value} (I : Inv X pins σ H s) (h : CE X.stack X.prog X.w H s Q u s') : EP X pins σ Q u s' := by
  obtain ⟨v, H', os, bare, un, hok, r, q⟩ := h
  obtain ⟨hh, g, d, t, os'⟩ := s'
  obtain rfl : os' = s.os := os
  exact ⟨v, H', I.call (h' := hh) (g' := g) (d' := d) (t' := t) (ch := []) un hok bare (fun b z => absurd z (by simp)), r, q⟩
end

def Binds (K : PySem.W.Frag) (fd : FuncData) (ps : List Str) (ds : List Value) : Prop :=
  ∀ (s : Shared) (us : List Value), K.In s.heap → (us ++ ds).length = ps.length → BindsTo s fd ⟨us, []⟩ (ps.zip (us ++ ds))
theorem Binds.all {K : PySem.W.Frag} {fd : FuncData} {ps : List Str} (h : ∀ us : List Value, us.length = ps.length → bindArgs fd ⟨us, []⟩ = pure (ps.zip us)) : Binds K fd ps [] := fun s us _ hl => by
  rw [List.append_nil] at hl ⊢
  exact .of_eq (h us hl)

section
variable {X : Cx} {CX : CXT} {k : Nat} {f C : Addr} {fd : FuncData} {ps : List Str} {sp : Sp} {dvs : List V} {ds : List Value} {E : XK} {x m : Str} {p pos apos : Pos} {e o : Expr} {es : List Expr} {ta : TE} {t : TA}

structure Mk (K : PySem.W.Frag) (C f : Addr) : Prop where
  makes : PySem.W.makesIn K C = true
  init : PySem.W.findIn K (.ref C) "__init__" = some (some (.ref f))
  fn : PySem.W.isFn K (.ref f) = true
  kp : PySem.W.keepIn K (.ref C) = true

end

section
variable {X : Cx} {CX : CXT} {k : Nat} {f C : Addr} {fd : FuncData} {ps ks : List Str} {sp : Sp} {E : XK} {x m : Str} {p pos apos kpos : Pos} {e o : Expr} {es : List Expr} {kws : List Keyword} {te ta : TE} {t tk : TA} {nm : Option Str}
structure KBinds (K : PySem.W.Frag) (fd : FuncData) (ps ks : List Str) (g : List Value → List Value → List Value) (gV : List V → List V → List V) : Prop where
  to : ∀ (s : Shared) (us ws : List Value), K.In s.heap → (g us ws).length = ps.length → BindsTo s fd ⟨us, ks.zip ws⟩ (ps.zip (g us ws))
  rel : ∀ {vs : List V} {us : List Value} {zs : List V} {ws : List Value}, Vals vs us → Vals zs ws → Vals (gV vs zs) (g us ws)
variable {g : List Value → List Value → List Value} {gV : List V → List V → List V}
end

structure FnScope (N P : List Str) (sc : Scope) : Prop where
  kind : sc.kind = .function
  co : sc.isCoroutine = false
  gen : sc.isGenerator = false
  nd : N.Nodup
  pre : N.take P.length = P
  par : ∀ x ∈ P, sc.names.lookup x = some .local ∨ sc.names.lookup x = some .cell
  nofree : ∀ y ∈ sc.names, y.2 ≠ .free

theorem bindL_out {kindOf : Str → Option NameKind} {x : Str} : ∀ {binds : List (Str × Value)} {m : Str → Option Value}, (∀ v, (x, v) ∉ binds) → bindL kindOf binds m x = m x
  | [], _, _ => rfl
  | (n, v) :: r, m, h => by
    unfold bindL
    rw [bindL_out fun w hw => h w (List.mem_cons_of_mem _ hw)]
    split
    · have : x ≠ n := by rintro rfl; exact h v List.mem_cons_self
      simp [this]
    · rfl
theorem bindC_out {kindOf : Str → Option NameKind} {x : Str} : ∀ {binds : List (Str × Value)} {m : Str → Option Value}, (∀ v, (x, v) ∉ binds) → bindC kindOf binds m x = m x
  | [], _, _ => rfl
  | (n, v) :: r, m, h => by
    unfold bindC
    rw [bindC_out fun w hw => h w (List.mem_cons_of_mem _ hw)]
    split
    · rfl
    · have : x ≠ n := by rintro rfl; exact h v List.mem_cons_self
      simp [this]
theorem bindL_get {kindOf : Str → Option NameKind} {x : Str} {v : Value} : ∀ {P : List Str} {vs : List Value} {i : Nat} {m : Str → Option Value}, P.Nodup → P[i]? = some x → vs[i]? = some v → kindOf x = some .local →
    bindL kindOf (P.zip vs) m x = some v
  | [], _, _, _, _, h, _, _ => by simp at h
  | _ :: _, [], _, _, _, _, h, _ => by simp at h
  | p :: P, w :: vs, 0, m, nd, h1, h2, hk => by
    simp at h1 h2; subst h1; subst h2
    show bindL kindOf ((p, w) :: P.zip vs) m p = _
    unfold bindL
    rw [bindL_out fun v hv => (List.nodup_cons.mp nd).1 (List.of_mem_zip hv).1, if_pos hk]
    simp
  | p :: P, w :: vs, i + 1, m, nd, h1, h2, hk => by
    show bindL kindOf ((p, w) :: P.zip vs) m x = _
    unfold bindL
    exact bindL_get (i := i) (List.nodup_cons.mp nd).2 (by simpa using h1) (by simpa using h2) hk
theorem bindC_get {kindOf : Str → Option NameKind} {x : Str} {v : Value} : ∀ {P : List Str} {vs : List Value} {i : Nat} {m : Str → Option Value}, P.Nodup → P[i]? = some x → vs[i]? = some v → kindOf x ≠ some .local →
    bindC kindOf (P.zip vs) m x = some v
  | [], _, _, _, _, h, _, _ => by simp at h
  | _ :: _, [], _, _, _, _, h, _ => by simp at h
  | p :: P, w :: vs, 0, m, nd, h1, h2, hk => by
    simp at h1 h2; subst h1; subst h2
    show bindC kindOf ((p, w) :: P.zip vs) m p = _
    unfold bindC
    rw [bindC_out fun v hv => (List.nodup_cons.mp nd).1 (List.of_mem_zip hv).1, if_neg hk]
    simp
  | p :: P, w :: vs, i + 1, m, nd, h1, h2, hk => by
    show bindC kindOf ((p, w) :: P.zip vs) m x = _
    unfold bindC
    exact bindC_get (i := i) (List.nodup_cons.mp nd).2 (by simpa using h1) (by simpa using h2) hk

def start (N : List Str) (vs : List V) : St := vs.map some ++ List.replicate (N.length - vs.length) none

def cxOf (CX : CXT) (P : Program) (w : World) (K : PySem.W.Frag) (mg : Str → Option Value) (base : Heap) (N : List Str) (qual : Str) (scope : Scope) (f : Addr) (cd : Value) (A : Around) (outer : List Env) (s : Shared) (H : Hp) (E : XK) : Cx where
  prog := P
  w := w
  K := K
  mg := mg
  base := base
  A := A.deeper (envOfC qual scope s.heap.objs.size f cd)
  N := N
  s₀ := s
  H₀ := H
  env := envOfC qual scope s.heap.objs.size f cd
  outer := outer
  stack := envOfC qual scope s.heap.objs.size f cd :: outer
  ex := []
  calm := true
  fn := fun _ => true
  pn := []
  xe := fun e s' => wpAny (model P w) (A.deeper (envOfC qual scope s.heap.objs.size f cd)) (leaving (envOfC qual scope s.heap.objs.size f cd) e) (fun _ s'' => CX outer H s E e s'') (fun e' s'' => CX outer H s E e' s'') s'

theorem cell_has {sc : Scope} {n : Nat} {x : Str} (h : sc.names.lookup x = some .cell) : ∃ c, (cellsFrom n sc.names []).lookup x = some c := by
  have q := PySem.W.cellsFrom_some sc.names n [] (.inl h)
  exact Option.isSome_iff_exists.mp q

theorem inv_start {CX : CXT} {P : Program} {w : World} {K : PySem.W.Frag} {mg : Str → Option Value} {base : Heap} {N ps : List Str} {qual : Str} {scope : Scope} {f : Addr} {cd : Value} {A : Around} {outer : List Env} {s s1 : Shared} {H : Hp} {E : XK} {us : List Value} {vs : List V}
    (S : FnScope N ps scope) (hd : A.handled = none) (e0 : Env0 P w K mg base A outer s H) (hl : vs.length = ps.length) (r : Vals vs us)
    (x : InCallC s s.heap.objs.size (bindL (envOfC qual scope s.heap.objs.size f cd).kindOf (ps.zip us) fun _ => none) (cellsFrom (s.heap.objs.size + 1) scope.names []) (bindC (envOfC qual scope s.heap.objs.size f cd).kindOf (ps.zip us) fun _ => none) s1) :
    Inv (cxOf CX P w K mg base N qual scope f cd A outer s H E) [] (start N vs) H s1 := by
  have hpl : ps.length ≤ N.length := by have := congrArg List.length S.pre; rw [List.length_take] at this; omega
  obtain ⟨h1, tk, rfl, hk⟩ := x.done
  have noA : ∀ b : Addr, b ∉ (cxOf CX P w K mg base N qual scope f cd A outer s H E).ex := fun b z => absurd (show b ∈ ([] : List Addr) from z) (by simp)
  refine ⟨⟨e0.mod, S.kind, rfl, rfl, Nat.le_refl _, fun y z c h1 h2 => ?_, fun y hy => ?_, fun y c _ h => ?_, fun _ => hd, Around.frames_deeper e0.frames, .inr ⟨rfl, rfl⟩, fun b z => absurd z (noA b), e0.bs, e0.bsz, fun b _ _ => noA b, fun b z => absurd z (noA b), e0.funs, e0.frf⟩,
    rfl, e0.bare, Un.kept hk, ⟨_, x.toInCall.ns, fun i y v h1 h2 h3 => ?_⟩, fun y c h => ⟨_, x.cell y c h⟩, e0.hok.fresh (Nat.le_refl _), fun y c h => ?_, fun p hp => absurd (show p ∈ ([] : List (Addr × Obj)) from hp) (by simp), e0.hok.kept hk, ?_⟩
  · exact name_of_addr x.apart (PySem.mem_of_lookup h1) (PySem.mem_of_lookup h2)
  · have hy : scope.names.lookup y = some .cell ∨ scope.names.lookup y = some .free := hy
    rcases hy with hy | hy
    · exact cell_has hy
    · exact absurd rfl (S.nofree _ (PySem.mem_of_lookup hy))
  · exact Nat.le_of_lt (x.above y c (PySem.mem_of_lookup h))
  · have hi : i < vs.length := by
      unfold start at h2
      by_cases hi : i < vs.length
      · exact hi
      · rw [List.getElem?_append_right (by simpa using hi)] at h2
        rw [List.getElem?_replicate] at h2
        split at h2 <;> cases h2
    have ha : vs[i]? = some v := by
      unfold start at h2
      rw [List.getElem?_append_left (by simpa using hi), List.getElem?_map] at h2
      cases e : vs[i]? with
      | none => rw [e] at h2; cases h2
      | some a => rw [e] at h2; cases h2; rfl
    obtain ⟨u, hu, rv⟩ := r.get ha
    have hp : ps[i]? = some y := by
      rw [← S.pre, List.getElem?_take_of_lt (by omega)]; exact h1
    have ndP : ps.Nodup := by rw [← S.pre]; exact S.nd.sublist (List.take_sublist _ _)
    refine ⟨u, rv, ?_⟩
    rcases S.par y (List.mem_of_getElem? hp) with k | k
    · exact .inl ⟨k, bindL_get ndP hp hu k⟩
    · obtain ⟨c, e⟩ := cell_has (n := s.heap.objs.size + 1) k
      refine .inr ⟨.inl k, c, e, ?_⟩
      have q := x.cell y c e
      rw [bindC_get ndP hp hu (by show scope.names.lookup y ≠ _; rw [k]; decide)] at q
      exact q
  · exact e0.hok.fresh (Nat.le_of_lt (x.above y c (PySem.mem_of_lookup h)))
  · unfold start
    show _ = N.length
    rw [List.length_append, List.length_map, List.length_replicate]
    omega

theorem fn_of {CX : CXT} {P : Program} {w : World} {K : PySem.W.Frag} {mg : Str → Option Value} {base : Heap} {k : Nat} {f : Addr} {name qual : Str} {params : Arguments} {body : List Stmt} {scope : Scope} {dV kV doc pm cdv ct oc : Value} {an od : Option Addr}
    {osl : Array (Option Value)} {N ps : List Str} {sp : Sp} (lk : K.lookup f = some ⟨oc, od, .func (PySem.W.fnOf name qual params body scope dV kV doc pm an cdv ct), osl⟩) (hcd : PySem.W.codeIn K cdv qual = true) (S : FnScope N ps scope)
    (len : ∀ vs H Q E, sp vs H Q E → vs.length = ps.length)
    (hbody : ∀ (A : Around) (outer : List Env) (s : Shared) (H : Hp) (vs : List V) (Q : VK) (E : XK), Room k (A.deeper (envOfC qual scope s.heap.objs.size f cdv)) → sp vs H Q E →
      ∃ t, PSs (cxOf CX P w K mg base N qual scope f cdv A outer s H E) body t ∧ t { nx := fun _ H' => Q .non H', rt := Q } (start N vs) H) :
    FnOk P w K mg base CX (k + 1) f (PySem.W.fnOf name qual params body scope dV kV doc pm an cdv ct) ps sp := by
  refine ⟨len, fun A outer s H args us vs Q E hr e0 hb r hsp => ?_⟩
  have hl := len _ _ _ _ hsp
  have KX : K.In s.heap := e0.mod.kin.keeps fun b o e => (e0.bs b o e).1
  have lim : s.heap.NoLimit := e0.mod.nolimit.keeps fun b o e => (e0.bs b o e).1
  have hkind : ∀ y ∈ ps.zip us, scope.names.lookup y.1 = some .local ∨ (scope.names.lookup y.1 = some .cell ∧ ((cellsFrom (s.heap.objs.size + 1) scope.names []).lookup y.1).isSome = true) := fun ⟨n, v⟩ hy => by
    rcases S.par n (List.of_mem_zip hy).1 with q | q
    · exact .inl q
    · exact .inr ⟨q, PySem.W.cellsFrom_some _ _ _ (.inl q)⟩
  refine codeAny_call_function hr.depth (KX _ _ lk) rfl S.co S.gen rfl (PySem.W.codeRec_of KX hcd) (hb _ _ _ _ ?_)
  refine wpAny_newFunctionEnv_cells S.kind hkind fun env he s1 x => ?_
  subst he
  refine ⟨lim.keeps x.toInCall.keep, codeAny_func ?_⟩
  obtain ⟨t, ht, hq⟩ := hbody A outer s H vs Q E (hr.deeper _) hsp
  have I : Inv (cxOf CX P w K mg base N qual scope f cdv A outer s H E) [] (start N vs) H s1 := inv_start S hr.hd e0 hl r x
  refine wpAny_mono (ht [] s1 (start N vs) H _ I hq) (fun fl s' hs => ?_) fun e s' hs => hs
  have fin : ∀ {σ' : St} {H' : Hp} {v : V} {u : Value}, Inv (cxOf CX P w K mg base N qual scope f cdv A outer s H E) [] σ' H' s' → RelV v u → Q v H' → CE outer P w H s Q u s' :=
    fun {σ' H' v u} J rv q => ⟨v, H', J.os, J.bare, J.base, J.hok, rv, q⟩
  cases fl with
  | ret u =>
    obtain ⟨v, σ', H', J, rv, q⟩ := hs
    exact fin J rv q
  | next =>
    obtain ⟨σ', H', J, q⟩ := hs
    exact fin (v := V.non) (u := Value.none) J rfl q
  | brk =>
    obtain ⟨_, _, _, q⟩ := hs
    exact False.elim q
  | cont =>
    obtain ⟨_, _, _, q⟩ := hs
    exact False.elim q
end L2

namespace L2
open PySem PySem.Spec PyProof.Rows
section
variable {X : Cx} {x : Str} {p pos : Pos} {e : Expr} {es : List Expr} {t : TA} {id T : String} {r : List V → Hp → VK → Prop}

def tCB (r : List V → Hp → VK → Prop) (t : TA) : TE := fun σ H Q => t σ H fun vs H1 => r vs H1 Q
theorem pe_callB (hc : CallR X (.builtin id) r) (hg : Gl X x) (hm : X.mg x = none) (hv : bootBuiltins x = some (.builtin id)) (ha : PA X (e :: es) t) (hn : x ≠ "__name__" := by decide) (hdb : (x == ("__debug__" : Str)) = false := by decide)
    (he : starEach (e :: es) X.env = (false, eval e X.env) :: starEach es X.env := by rfl) (hpl : (backTo pos (starEach es X.env)).any (·.1) = false := by rfl) : PE X (.Call (.Name x p) (e :: es) [] pos) (tCB r t) := by
  intro pins s σ H Q I h
  refine wpAny_Call_Name_kw (ld_blt I hg hm hv ?_ hn hdb)
  exact PyProof.Rows.callWith_builtin1 (thn (ha pos pins s σ H _ I h) fun us s1 ⟨vs, H1, I1, r1, q1⟩ => hc pins s1 σ H1 vs us Q I1 r1 q1) he hpl
theorem pe_callTy (hc : CallR X (.type T) r) (hg : Gl X x) (hm : X.mg x = none) (hv : bootBuiltins x = some (.type T)) (ha : PA X (e :: es) t) (hn : x ≠ "__name__" := by decide) (hdb : (x == ("__debug__" : Str)) = false := by decide)
    (he : starEach (e :: es) X.env = (false, eval e X.env) :: starEach es X.env := by rfl) (hpl : (backTo pos (starEach es X.env)).any (·.1) = false := by rfl) : PE X (.Call (.Name x p) (e :: es) [] pos) (tCB r t) := by
  intro pins s σ H Q I h
  refine wpAny_Call_Name_kw (ld_blt I hg hm hv ?_ hn hdb)
  exact PyProof.Rows.callWith_type1 (thn (ha pos pins s σ H _ I h) fun us s1 ⟨vs, H1, I1, r1, q1⟩ => hc pins s1 σ H1 vs us Q I1 r1 q1) he hpl
end
end L2

namespace HT
open PySem PyProof.Rows

section
open PySem.SeqAt
open PySem.AutoSeq1 (wpAny_loadPart')
open PySem.MeetsSeq PySem.MeetsSeq2 PySem.MeetsSeq3

end

section
variable {prog : Program} {w : World} {A : Around} {E : Value → Shared → Prop} {s : Shared}

theorem cat_tup {t b : Addr} {vs ws : List Value} {Q : Value → Shared → Prop} (ht : IsTup s.heap t vs.toArray) (hb : IsTup s.heap b ws.toArray) (hv : vs ≠ [])
    (h1 : ws = [] → Q (.ref t) s) (h2 : ws ≠ [] → Q (.ref s.heap.objs.size) { s with heap := s.heap.push { cls := .type "tuple", data := .seq (vs ++ ws).toArray } })
    (hsz : vs.length + ws.length ≤ sizeLine) : wpAny (model prog w) A (binaryOp .Add (.ref t) (.ref b)) Q E s := by
  obtain ⟨⟨cls, dd, data, sl⟩, ho, hc, n, hd⟩ := id ht
  obtain ⟨⟨cls2, dd2, data2, sl2⟩, ho2, hc2, n2, hd2⟩ := id hb
  simp only at hc hd hc2 hd2
  subst hc hd hc2 hd2
  have e : vs.toArray ++ ws.toArray = (vs ++ ws).toArray := by simp
  by_cases hw : ws = []
  · exact concat_meets ⟨_, ho, rfl⟩ ⟨_, ho2, rfl⟩ noFill_tuple_add seq_tuple_add PySem.F.slot_tuple_add PySem.F.entry_tuple_add (PySem.F.args_tuple_add_2 _ _)
      (tuple_addW1 t b vs.toArray ws.toArray n n2 dd dd2 sl sl2 (by simpa using hv) (by simp [hw])) ⟨ho, ho2, h1 hw⟩
  · refine concat_meets ⟨_, ho, rfl⟩ ⟨_, ho2, rfl⟩ noFill_tuple_add seq_tuple_add PySem.F.slot_tuple_add PySem.F.entry_tuple_add (PySem.F.args_tuple_add_2 _ _)
      (tuple_addW2 t b vs.toArray ws.toArray n n2 dd dd2 sl sl2 (by simpa using hv) (by simpa using hw) (by rw [List.size_toArray, List.size_toArray]; exact hsz)) ⟨ho, ho2, ?_⟩
    rw [e]
    exact h2 hw

def sIx (n d : Nat) : Option Int → Nat
  | none => d
  | some v => if v < 0 then (v + (n : Int)).toNat else min v.toNat n
theorem sIx_le (n d : Nat) (hd : d ≤ n) (o : Option Int) : sIx n d o ≤ n := by
  cases o with
  | none => exact hd
  | some v =>
    show (if v < 0 then (v + (n : Int)).toNat else min v.toNat n) ≤ n
    by_cases hv : v < 0
    · rw [if_pos hv]; omega
    · rw [if_neg hv]; exact Nat.min_le_right _ _
theorem clip_eq (v : Int) (n d : Nat) : (if v < 0 then max (v + (n : Int)) 0 else min v (n : Int)) = ((sIx n d (some v) : Nat) : Int) := by
  show (if v < 0 then max (v + (n : Int)) 0 else min v (n : Int)) = (((if v < 0 then (v + (n : Int)).toNat else min v.toNat n) : Nat) : Int)
  by_cases hv : v < 0
  · simp only [if_pos hv]; omega
  · simp only [if_neg hv]; omega
theorem adjust_gen (lo hi : Option Int) (n : Nat) : Builtin.Slice.sliceAdjust lo hi 1 (n : Int) = (((sIx n 0 lo : Nat) : Int), ((sIx n n hi : Nat) : Int)) := by
  have h1 : ¬ ((1 : Int) < 0) := by omega
  unfold Builtin.Slice.sliceAdjust
  simp only [h1, if_false]
  refine Prod.ext ?_ ?_
  · cases lo with
    | none => rfl
    | some v => exact clip_eq v n 0
  · cases hi with
    | none => rfl
    | some v => exact clip_eq v n n
theorem places_gen (i j : Nat) : Builtin.Slice.slicePlaces (i : Int) (j : Int) 1 = j - i := by
  unfold Builtin.Slice.slicePlaces
  have h1 : (1 : Int) > 0 := by omega
  simp only [h1, if_true, Int.ediv_one]
  split <;> omega
theorem slicePart_ {v : Value} {o : Option Int} {Q : Option Int → Shared → Prop} (p : IsPart v o) (h : Q o s) : wpAny (model prog w) A (Builtin.Slice.slicePartIndex v) Q E s := by
  cases p with
  | none => exact slicePart_none h
  | int i t => exact slicePart_int h
theorem sliceApplied_gen {sl : Addr} {vl vu : Value} {lo hi : Option Int} {n : Nat} {Q : Int × Int × Nat → Shared → Prop} (hs : s.heap.IsSliceOf sl vl vu .none) (pl : IsPart vl lo) (pu : IsPart vu hi)
    (h : Q (((sIx n 0 lo : Nat) : Int), 1, sIx n n hi - sIx n 0 lo) s) : wpAny (model prog w) A (Builtin.Slice.sliceApplied (.ref sl) (pure (n : Int))) Q E s := by
  obtain ⟨os, hos, hcs, hds⟩ := id hs
  unfold Builtin.Slice.sliceApplied Builtin.Slice.sliceFields
  refine wpAny_bind (wpAny_bind (wpAny_field hos hds (x := vl) rfl (wpAny_bind (wpAny_field hos hds (x := vu) rfl (wpAny_bind (wpAny_field hos hds (x := .none) rfl (wpAny_pure ?_)))))))
  refine wpAny_bind (slicePart_none ?_)
  show wpAny _ _ (if ((1 : Int) == 0) = true then _ else _) _ _ s
  rw [if_neg (by decide)]
  refine wpAny_bind (slicePart_ pl (wpAny_bind (slicePart_ pu (wpAny_bind (wpAny_pure ?_)))))
  show wpAny _ _ (match Builtin.Slice.sliceAdjust lo hi 1 (n : Int) with | (lo, hi) => pure (lo, (1 : Int), Builtin.Slice.slicePlaces lo hi 1)) _ _ s
  rw [adjust_gen lo hi n]
  show wpAny _ _ (pure (((sIx n 0 lo : Nat) : Int), (1 : Int), Builtin.Slice.slicePlaces ((sIx n 0 lo : Nat) : Int) ((sIx n n hi : Nat) : Int) 1)) _ _ s
  rw [places_gen]
  exact wpAny_pure h
theorem pick_gen (xs : Array Value) (i k : Nat) : ((List.range k).filterMap fun (m : Nat) => xs[((i : Int) + (m : Int) * 1).toNat]?).toArray = ((xs.toList.drop i).take k).toArray := by
  have e : (fun (m : Nat) => xs[((i : Int) + (m : Int) * 1).toNat]?) = fun m => xs[i + m]? := by
    funext m
    have : ((i : Int) + (m : Int) * 1).toNat = i + m := by omega
    rw [this]
  rw [e]
  have := pick_run xs i k
  rw [List.filterMap_map] at this
  have e2 : ((fun x => xs[x]?) ∘ fun x => i + x) = fun m => xs[i + m]? := rfl
  rw [e2] at this
  rw [this]

theorem getItem_tuple_cut {t sl : Addr} {items : Array Value} {vl vu : Value} {lo hi : Option Int} {Q : Value → Shared → Prop} (ht : IsTup s.heap t items) (hs : s.heap.IsSliceOf sl vl vu .none) (pl : IsPart vl lo) (pu : IsPart vu hi)
    (hw : ¬ (sIx items.size 0 lo = 0 ∧ sIx items.size items.size hi = items.size))
    (h : Q (.ref s.heap.objs.size) { s with heap := s.heap.push { cls := .type "tuple", data := .seq ((items.toList.drop (sIx items.size 0 lo)).take (sIx items.size items.size hi - sIx items.size 0 lo)).toArray } })
    (hsz : items.size ≤ sizeLine) : wpAny (model prog w) A (getItem (.ref t) (.ref sl)) Q E s := by
  have htake : sizeOk (.seq ((items.toList.drop (sIx items.size 0 lo)).take (sIx items.size items.size hi - sIx items.size 0 lo)).toArray) := by
    show ((items.toList.drop (sIx items.size 0 lo)).take (sIx items.size items.size hi - sIx items.size 0 lo)).toArray.size ≤ sizeLine
    rw [List.size_toArray, List.length_take, List.length_drop, Array.length_toList]
    omega
  have hj : sIx items.size items.size hi ≤ items.size := sIx_le _ _ (Nat.le_refl _) hi
  obtain ⟨os, hos, hcs, hds⟩ := id hs
  have hTs : s.TypeIs (.ref sl) "slice" := ⟨os, hos, hcs⟩
  unfold getItem
  try with_reducible refine wpAny_holding ?_
  first | refine wpAny_bind (wpAny_pure ?_) | skip
  refine wpAny_bind (wpAny_sequenceKey ht.typeIs (by decide) ?_)
  refine wpAny_bind (wpAny_callSpecial?_slot (name := Str.ofString "__getitem__") ht.typeIs PyProof.Rows.slot_tuple_getitem
    (wpAny_call_entry PyProof.Rows.slot_tuple_getitem ht.typeIs entry_tuple_getitem ?_ (args_tuple_getitem _ _)))
  show wpAny _ _ (Builtin.Tuple.tupleItemsOf (.ref t) >>= _) _ _ s
  refine wpAny_bind (tupleItemsOf_ ht ?_)
  refine wpAny_bind (wpAny_typeOf hTs ?_)
  rw [if_pos (by decide)]
  refine wpAny_bind (sliceApplied_gen hs pl pu ?_)
  have hno : ¬ ((((sIx items.size 0 lo : Nat) : Int) == 0 && (1 : Int) == 1 && (sIx items.size items.size hi - sIx items.size 0 lo) == items.size) = true) := by
    intro q
    rw [Bool.and_eq_true, Bool.and_eq_true] at q
    have q1 : ((sIx items.size 0 lo : Nat) : Int) = 0 := eq_of_beq q.1.1
    have q2 : sIx items.size items.size hi - sIx items.size 0 lo = items.size := eq_of_beq q.2
    exact hw ⟨by omega, by omega⟩
  show wpAny _ _ (if (((sIx items.size 0 lo : Nat) : Int) == 0 && (1 : Int) == 1 && (sIx items.size items.size hi - sIx items.size 0 lo) == items.size) = true then _ else _) _ _ s
  rw [if_neg hno, pick_gen]
  first
    | exact wpAny_bind (m := Builtin.Tuple.tupleExact _) (wpAny_newObj_type (wpAny_pure ⟨_, rfl, wpAny_pure h⟩) htake)
    | exact wpAny_bind (m := Builtin.Tuple.tupleExact _) (wpAny_newObj_type (wpAny_bind (wpAny_pure (wpAny_pure ⟨_, rfl, wpAny_pure h⟩))) htake)
    | exact wpAny_bind (wpAny_bind (m := Builtin.Tuple.tupleExact _) (wpAny_newObj_type (wpAny_pure (wpAny_pure ⟨_, rfl, wpAny_pure h⟩)) htake))
    | exact wpAny_bind (wpAny_bind (m := Builtin.Tuple.tupleExact _) (wpAny_newObj_type (wpAny_pure ⟨_, rfl, wpAny_pure h⟩) htake))
end
end HT

namespace L2
open PySem PySem.Spec PyProof.Rows

abbrev TO := St → Hp → (Option Int → Hp → Prop) → Prop
def PO (X : Cx) (e : Option Expr) (t : TO) : Prop :=
  ∀ (pins : List (Addr × Obj)) (s : Shared) (σ : St) (H : Hp) (Q : Option Int → Hp → Prop), Inv X pins σ H s → t σ H Q →
    wpAny (model X.prog X.w) X.A (evalPart e X.env) (fun u s' => ∃ o H', Inv X pins σ H' s' ∧ IsPart u o ∧ Q o H') X.xe s
def tNoPart : TO := fun _ H Q => Q none H
def tPart (t : TE) : TO := fun σ H Q => t σ H fun x H1 => ∃ i, x = .int i ∧ Q (some i) H1

section
variable {X : Cx} {e : Expr} {te : TE} {lo hi : Option Expr} {tl th : TO} {pos p2 : Pos}

theorem po_none : PO X none tNoPart := by
  intro pins s σ H Q I h
  rw [evalPart_none]
  exact wpAny_pure ⟨none, H, I, .none, h⟩
theorem po_some (h : PE X e te) : PO X (some e) (tPart te) := by
  intro pins s σ H Q I hw
  rw [evalPart_some]
  refine thn (h pins s σ H _ I hw) fun u s1 ⟨x, H1, I1, r1, q1⟩ => ?_
  obtain ⟨i, rfl, q⟩ := q1
  obtain ⟨t, rfl⟩ := r1
  exact ⟨some i, H1, I1, .int i t, q⟩

def SlR (X : Cx) (r : V → Option Int → Option Int → Hp → VK → Prop) : Prop :=
  ∀ (pins : List (Addr × Obj)) (s : Shared) (σ : St) (H : Hp) (x : V) (v vl vu : Value) (lo hi : Option Int) (sl : Addr) (Q : VK), Inv X pins σ H s → RelV x v → s.heap.IsSliceOf sl vl vu .none → IsPart vl lo → IsPart vu hi → r x lo hi H Q →
    ∃ T id, typeLookup (.type T) "__getitem__" = pure (some (.builtin id)) ∧ s.TypeIs v T ∧ wpAny (model X.prog X.w) X.A (getItem v (.ref sl)) (EP X pins σ Q) X.xe s
theorem SlR.or {r r' : V → Option Int → Option Int → Hp → VK → Prop} (h : SlR X r) (h' : SlR X r') : SlR X (fun x lo hi H Q => r x lo hi H Q ∨ r' x lo hi H Q) := by
  intro pins s σ H x v vl vu lo hi sl Q I rx hs pl pu q
  rcases q with q | q
  · exact h pins s σ H x v vl vu lo hi sl Q I rx hs pl pu q
  · exact h' pins s σ H x v vl vu lo hi sl Q I rx hs pl pu q
def tSl (r : V → Option Int → Option Int → Hp → VK → Prop) (te : TE) (tl th : TO) : TE := fun σ H Q => te σ H fun x H1 => tl σ H1 fun l H2 => th σ H2 fun u H3 => r x l u H3 Q
theorem pe_slice {r : V → Option Int → Option Int → Hp → VK → Prop} (hr : SlR X r) (he : PE X e te) (hl : PO X lo tl) (hu : PO X hi th) : PE X (.Subscript e (.Slice lo hi none p2) pos) (tSl r te tl th) := by
  intro pins s σ H Q I h
  refine Subscript_ (thn (he pins s σ H _ I h) fun v s1 ⟨x, H1, I1, r1, q1⟩ => ?_)
  refine wpAny_Slice (thn (hl pins s1 σ H1 _ I1 q1) fun vl s2 ⟨l, H2, I2, pl, q2⟩ => thn (hu pins s2 σ H2 _ I2 q2) fun vu s3 ⟨u, H3, I3, pu, q3⟩ => ?_)
  rw [evalPart_none]
  refine wpAny_pure ?_
  have I4 : Inv X pins σ H3 { s3 with heap := s3.heap.push { cls := .type "slice", data := .fields #[vl, vu, .none] } } := I3.kept (t' := s3.toks) fun b ob q => Heap.get?_push_of_some _ q
  obtain ⟨T, id, hT, ht, hg⟩ := hr pins { s3 with heap := s3.heap.push { cls := .type "slice", data := .fields #[vl, vu, .none] } } σ H3 x v vl vu l u s3.heap.objs.size Q I4 r1 (Heap.IsSliceOf.new ..) pl pu q3
  show wpAny (model X.prog X.w) X.A (subscriptTail e (.Slice lo hi none p2) v (.ref s3.heap.objs.size)) (EP X pins σ Q) X.xe { s3 with heap := s3.heap.push { cls := .type "slice", data := .fields #[vl, vu, .none] } }
  exact tail_any (ops := [.ref s3.heap.objs.size, v]) ht hT hg (by with_unfolding_all rfl)

def cutV (xs : List V) (lo hi : Option Int) : List V := (xs.drop (HT.sIx xs.length 0 lo)).take (HT.sIx xs.length xs.length hi - HT.sIx xs.length 0 lo)
theorem cutV_length (xs : List V) (lo hi : Option Int) : (cutV xs lo hi).length ≤ xs.length := by
  unfold cutV
  rw [List.length_take, List.length_drop]
  omega
def rSlT (K : PySem.W.Frag) : V → Option Int → Option Int → Hp → VK → Prop := fun x lo hi H Q => ∃ a xs, x = .ref a ∧ SqT K H a xs ∧
  ¬ (HT.sIx xs.length 0 lo = 0 ∧ HT.sIx xs.length xs.length hi = xs.length) ∧ ∀ p, H p = none → Q (.ref p) (upd H p (.tup (cutV xs lo hi)))
theorem sl_tup : SlR X (rSlT X.K) := by
  intro pins s σ H x v vl vu lo hi sl Q I rx hs pl pu h
  obtain ⟨a, xs, rfl, hx, hw, q⟩ := h
  cases rx
  obtain ⟨its, r, ht, hz⟩ := I.tuple hx
  have hlen : its.toArray.size = xs.length := by rw [List.size_toArray]; exact r.length.symm
  refine ⟨"tuple", _, PyProof.Rows.slot_tuple_getitem.lookup, ht.typeIs, ?_⟩
  refine HT.getItem_tuple_cut ht hs pl pu (by rw [hlen]; exact hw) ?_ (by rw [hlen]; exact hz)
  rw [hlen]
  refine ⟨.ref s.heap.objs.size, _, I.laid (t' := s.toks) (o := .tup (cutV xs lo hi)) (fun b ob q => Heap.get?_push_of_some _ q) (Nat.le_refl _) ?_, rfl, q _ (I.hok.fresh (Nat.le_refl _))⟩
  exact ⟨Nat.le_trans (cutV_length xs lo hi) hz, _, (r.drop (HT.sIx xs.length 0 lo)).take (HT.sIx xs.length xs.length hi - HT.sIx xs.length 0 lo), IsTup.new _ _⟩

def rCatT (K : PySem.W.Frag) : R2 := fun x y H Q => ∃ a b xs ys, x = .ref a ∧ y = .ref b ∧ SqT K H a xs ∧ SqT K H b ys ∧ xs ≠ [] ∧ xs.length + ys.length ≤ sizeLine ∧
  (ys = [] → Q (.ref a) H) ∧ (ys ≠ [] → ∀ p, H p = none → Q (.ref p) (upd H p (.tup (xs ++ ys))))
theorem Vals.nil_iff {xs : List V} {us : List Value} (r : Vals xs us) : us = [] ↔ xs = [] := by
  cases r with
  | nil => simp
  | cons _ _ => simp
theorem op_catT : OpR X (binaryOp .Add) (rCatT X.K) := by
  intro pins s σ H x y v u Q I rx ry h
  obtain ⟨a, b, xs, ys, rfl, rfl, ha, hb, hx, hz, q1, q2⟩ := h
  cases rx
  cases ry
  obtain ⟨its, r1, p1, _⟩ := I.tuple ha
  obtain ⟨its2, r2, p2, _⟩ := I.tuple hb
  refine HT.cat_tup p1 p2 (fun z => hx (r1.nil_iff.mp z)) (fun z => ⟨.ref a, H, I, rfl, q1 (r2.nil_iff.mp z)⟩) (fun z => ?_) (by rw [← r1.length, ← r2.length]; exact hz)
  refine ⟨.ref s.heap.objs.size, _, I.laid (t' := s.toks) (o := .tup (xs ++ ys)) (fun b ob q => Heap.get?_push_of_some _ q) (Nat.le_refl _) ?_, rfl, q2 (fun w => z (r2.nil_iff.mpr w)) _ (I.hok.fresh (Nat.le_refl _))⟩
  exact ⟨by rw [List.length_append]; exact hz, _, r1.append r2, IsTup.new _ _⟩
end
end L2

namespace L2
open PySem PySem.Spec PyProof.Rows

def ixN (n : Nat) (i : Int) : Option Nat := if 0 ≤ i then (if i < n then some i.toNat else none) else if -(n : Int) ≤ i then some (i + n).toNat else none
def atI {α : Type} (xs : List α) (i : Int) : Option α := (ixN xs.length i).bind fun j => xs[j]?
theorem ixN_seq {n : Nat} {i : Int} {j : Nat} (h : ixN n i = some j) : seqIndex? i n = some j ∧ j < n ∧ -(n : Int) ≤ i ∧ i < n := by
  unfold ixN at h
  by_cases h0 : 0 ≤ i
  · rw [if_pos h0] at h
    by_cases h1 : i < n
    · rw [if_pos h1] at h
      have e : i.toNat = j := Option.some.inj h
      exact ⟨by rw [seqIndex_of h0 h1, e], by omega, by omega, h1⟩
    · rw [if_neg h1] at h; cases h
  · rw [if_neg h0] at h
    by_cases h1 : -(n : Int) ≤ i
    · rw [if_pos h1] at h
      have e : (i + n).toNat = j := Option.some.inj h
      exact ⟨by rw [seqIndex_neg (by omega) h1, e], by omega, h1, by omega⟩
    · rw [if_neg h1] at h; cases h
theorem atI_get {α : Type} {xs : List α} {i : Int} {v : α} (h : atI xs i = some v) : ∃ j, seqIndex? i xs.length = some j ∧ xs[j]? = some v ∧ j < xs.length ∧ -(xs.length : Int) ≤ i ∧ i < xs.length := by
  unfold atI at h
  cases e : ixN xs.length i with
  | none => rw [e] at h; cases h
  | some j =>
    rw [e] at h
    obtain ⟨h1, h2, h3, h4⟩ := ixN_seq e
    exact ⟨j, h1, h, h2, h3, h4⟩
def PlainIx (b : Expr) : Prop := ∀ o i, subscripted b false o i = operate [o, i] (getItem o i)
def IxR (X : Cx) (r : R2) : Prop :=
  ∀ (value slice : Expr) (pins : List (Addr × Obj)) (s : Shared) (σ : St) (H : Hp) (x y : V) (v u : Value) (Q : VK), Inv X pins σ H s → RelV x v → RelV y u → r x y H Q →
    subscripted slice false v u = operate [v, u] (getItem v u) → wpAny (model X.prog X.w) X.A (subscriptTail value slice v u) (EP X pins σ Q) X.xe s
def MtR (X : Cx) (id : String) (r : V → List V → Hp → VK → Prop) : Prop :=
  ∀ (pins : List (Addr × Obj)) (s : Shared) (σ : St) (H : Hp) (x : V) (xs : List V) (v : Value) (us : List Value) (Q : VK), Inv X pins σ H s → RelV x v → Vals xs us → r x xs H Q →
    wpAny (model X.prog X.w) X.A (call (.builtin id) (v :: us)) (EP X pins σ Q) X.xe s
section
variable {X : Cx} {a b : Expr} {ta tb : TE} {pos : Pos}
theorem IxR.or {r r' : R2} (h : IxR X r) (h' : IxR X r') : IxR X (fun x y H Q => r x y H Q ∨ r' x y H Q) := by
  intro value slice pins s σ H x y v u Q I rx ry q hs
  rcases q with q | q
  · exact h value slice pins s σ H x y v u Q I rx ry q hs
  · exact h' value slice pins s σ H x y v u Q I rx ry q hs
theorem MtR.or {id : String} {r r' : V → List V → Hp → VK → Prop} (h : MtR X id r) (h' : MtR X id r') : MtR X id (fun x xs H Q => r x xs H Q ∨ r' x xs H Q) := by
  intro pins s σ H x xs v us Q I rx rs q
  rcases q with q | q
  · exact h pins s σ H x xs v us Q I rx rs q
  · exact h' pins s σ H x xs v us Q I rx rs q
theorem pe_ix {r : R2} (hr : IxR X r) (ha : PE X a ta) (hb : PE X b tb) (hs : PlainIx b) : PE X (.Subscript a b pos) (tOp r ta tb) := by
  intro pins s σ H Q I h
  exact Subscript_ (binT ha hb I h fun v u s2 x y H2 I2 rx ry q => hr a b pins s2 σ H2 x y v u Q I2 rx ry q (hs _ _))

def rIxL (K : PySem.W.Frag) : R2 := fun x y H Q => ∃ p xs i v, x = .ref p ∧ y = .int i ∧ SqL K H p xs ∧ atI xs i = some v ∧ Q v H
def rIxT (K : PySem.W.Frag) : R2 := fun x y H Q => ∃ p xs i v, x = .ref p ∧ y = .int i ∧ SqT K H p xs ∧ atI xs i = some v ∧ Q v H
def rIxS : R2 := fun x y H Q => ∃ z i c, x = .str z ∧ y = .int i ∧ z.length ≤ sizeLine ∧ atI z.cps.toList i = some c ∧ Q (.str ⟨#[c]⟩) H
theorem ix_list : IxR X (rIxL X.K) := by
  intro value slice pins s σ H x y v u Q I rx ry h hs
  obtain ⟨p, xs, i, z, rfl, rfl, hq, he, q⟩ := h
  cases rx
  obtain ⟨t, rfl⟩ := ry
  obtain ⟨its, r, pl, hz⟩ := I.list hq
  obtain ⟨j, h1, h2, h3, h4, h5⟩ := atI_get he
  obtain ⟨w, ew, rw'⟩ := r.get h2
  have hl := r.length
  have hn := line63
  have fin : EP X pins σ Q w s := ⟨z, H, I, rw', q⟩
  by_cases h0 : 0 ≤ i
  · have hj : i.toNat = j := by
      rw [seqIndex_of h0 h5] at h1
      exact Option.some.inj h1
    exact item_listR pl.isList h0 (by omega) (by rw [hj]; simpa using ew) fin hs
  · have hj : (i + (its.toArray.size : Int)).toNat = j := by
      rw [seqIndex_neg (by omega) h4] at h1
      rw [List.size_toArray, ← hl]
      exact Option.some.inj h1
    exact subscriptTail_builtinR (x := w) pl.isList.typeIs slot_list_getitem.lookup
      (wpAny_getItem_list_neg (Q := fun r s' => r = w ∧ EP X pins σ Q r s') pl.isList (by omega) (by rw [List.size_toArray] <;> omega) (by omega) (by rw [hj]; simpa using ew) ⟨rfl, fin⟩) hs
theorem ix_tup : IxR X (rIxT X.K) := by
  intro value slice pins s σ H x y v u Q I rx ry h hs
  obtain ⟨p, xs, i, z, rfl, rfl, hq, he, q⟩ := h
  cases rx
  obtain ⟨t, rfl⟩ := ry
  obtain ⟨its, r, pl, hz⟩ := I.tuple hq
  obtain ⟨j, h1, h2, h3, h4, h5⟩ := atI_get he
  obtain ⟨w, ew, rw'⟩ := r.get h2
  have hl := r.length
  have hn := line63
  have fin : EP X pins σ Q w s := ⟨z, H, I, rw', q⟩
  exact subscriptTail_builtinR (x := w) pl.typeIs slot_tuple_getitem.lookup
    (getItem_tuple (j := j) (Q := fun r s' => r = w ∧ EP X pins σ Q r s') pl (by omega) (by omega) (by rw [List.size_toArray, ← hl]; exact h1) (by simpa using ew) ⟨rfl, fin⟩) hs
theorem ix_str : IxR X rIxS := by
  intro value slice pins s σ H x y v u Q I rx ry h hs
  obtain ⟨z, i, c, rfl, rfl, hz, he, q⟩ := h
  obtain ⟨t, rfl⟩ := rx
  obtain ⟨t', rfl⟩ := ry
  obtain ⟨j, h1, h2, h3, h4, h5⟩ := atI_get he
  have hl : z.cps.toList.length = z.length := by simp [Str.length]
  rw [hl] at h1 h4 h5
  have hn := line63
  exact tail_any (typeIs_str s z t) slot_str_getitem.lookup (getItem_str (c := c) (by
    have e1 : decide (i < -(2 ^ 63 : Int)) = false := decide_eq_false (by omega)
    have e2 : decide (i ≥ 2 ^ 63) = false := decide_eq_false (by omega)
    rw [e1, e2, Bool.or_false]) (by rw [h1]; simpa using h2) ⟨.str ⟨#[c]⟩, H, I.tok _, ⟨_, rfl⟩, q⟩) hs
def rIx (K : PySem.W.Frag) : R2 := fun x y H Q => rIxL K x y H Q ∨ rIxT K x y H Q ∨ rIxS x y H Q
theorem ix_seq : IxR X (rIx X.K) := ix_list.or (ix_tup.or ix_str)

theorem mapSeq_set (its : List Value) (n j : Nat) (u : Value) : Obj.mapSeq (·.setIfInBounds j u) { cls := .type "list", data := .seq its.toArray n } = { cls := .type "list", data := .seq (its.set j u).toArray n } := by
  simp [Obj.mapSeq]
theorem Inv.lst {pins : List (Addr × Obj)} {σ : St} {H : Hp} {s : Shared} {p : Addr} {xs : List V} (I : Inv X pins σ H s) (h : H p = some (.lst xs)) :
    ∃ (its : List Value) (n : Nat), Vals xs its ∧ s.heap.get? p = some { cls := .type "list", data := .seq its.toArray n } ∧ xs.length ≤ sizeLine := by
  obtain ⟨z, its, n, r, e⟩ := I.hok p _ h
  exact ⟨its, n, r, e, z⟩
theorem Inv.lstUpd {pins : List (Addr × Obj)} {σ : St} {H : Hp} {s : Shared} {p : Addr} {xs ys : List V} {its its' : List Value} {n n' : Nat} {f : Obj → Obj} (I : Inv X pins σ H s) (h : H p = some (.lst xs))
    (ho : s.heap.get? p = some { cls := .type "list", data := .seq its.toArray n }) (hf : f { cls := .type "list", data := .seq its.toArray n } = { cls := .type "list", data := .seq its'.toArray n' }) (r : Vals ys its') (hz : ys.length ≤ sizeLine) (t : Nat) :
    Inv X pins σ (upd H p (.lst ys)) { s with heap := s.heap.update p f, toks := t } := by
  have e : (s.heap.update p f).get? p = some { cls := .type "list", data := .seq its'.toArray n' } := by
    rw [Heap.get?_update_self f ho (by rw [hf] <;> rfl), hf]
  refine I.write (x := p) (e := p) (by rw [h]; trivial) (.inl rfl) (fun b u hb q => (Heap.get?_update_other _ _ (Ne.symm hb)).trans q) ⟨_, e⟩ ?_
  exact ⟨hz, its', n', r, e⟩
def rSetL : V → V → V → Hp → (Hp → Prop) → Prop := fun o i v H Q => ∃ p xs k j, o = .ref p ∧ i = .int k ∧ H p = some (.lst xs) ∧ ixN xs.length k = some j ∧ Q (upd H p (.lst (xs.set j v)))
theorem set_list : PSet X rSetL := by
  intro pins s σ H o i v ov iv u Q I ro ri rv h
  obtain ⟨p, xs, k, j, rfl, rfl, hp, hj, q⟩ := h
  cases ro
  obtain ⟨t, rfl⟩ := ri
  obtain ⟨its, n, r, ho, hz⟩ := I.lst hp
  obtain ⟨h1, h2, h3, h4⟩ := ixN_seq hj
  have hl := r.length
  have hn := line63
  have I' : Inv X pins σ (upd H p (.lst (xs.set j v))) { s with heap := s.heap.update p (Obj.mapSeq (·.setIfInBounds j u)) } :=
    I.lstUpd hp ho (mapSeq_set its n j u) (r.set rv j) (by rw [List.length_set]; exact hz) s.toks
  by_cases h0 : 0 ≤ k
  · have hk : k.toNat = j := by
      rw [seqIndex_of h0 h4] at h1
      exact Option.some.inj h1
    exact PySem.W.ki_setAt ho h0 (by omega) (by rw [List.size_toArray, ← hl]; exact h4) (by rw [hk]; exact ⟨_, I', q⟩)
  · have hk : (k + (its.toArray.size : Int)).toNat = j := by
      rw [seqIndex_neg (by omega) h3] at h1
      rw [List.size_toArray, ← hl]
      exact Option.some.inj h1
    exact PySem.W.ki_setBack ho (by omega) (by rw [List.size_toArray, ← hl]; exact h3) (by omega) (by rw [hk]; exact ⟨_, I', q⟩)

theorem slice_bounds (lo hi : Option Int) (n : Nat) : (sliceBounds lo hi none n).1 = ((HT.sIx n 0 lo : Nat) : Int) ∧ (sliceBounds lo hi none n).2.1 = ((HT.sIx n n hi : Nat) : Int) ∧ (sliceBounds lo hi none n).2.2 = 1 := by
  refine ⟨?_, ?_, rfl⟩
  · cases lo with
    | none => simp [sliceBounds, HT.sIx]
    | some i =>
      simp only [sliceBounds, HT.sIx, Option.getD_none, show (1 : Int) > 0 by decide, if_true]
      by_cases h : i < 0
      · simp only [h, if_true] <;> omega
      · simp only [h, if_false] <;> omega
  · cases hi with
    | none => simp [sliceBounds, HT.sIx]
    | some i =>
      simp only [sliceBounds, HT.sIx, Option.getD_none, show (1 : Int) > 0 by decide, if_true]
      by_cases h : i < 0
      · simp only [h, if_true] <;> omega
      · simp only [h, if_false] <;> omega
theorem slicePick_cut (its : List Value) (lo hi : Option Int) : slicePick its.toArray lo hi none = ((its.drop (HT.sIx its.length 0 lo)).take (HT.sIx its.length its.length hi - HT.sIx its.length 0 lo)).toArray := by
  obtain ⟨h1, h2, h3⟩ := slice_bounds lo hi its.toArray.size
  unfold slicePick
  rw [h1, h2, h3]
  simp only [sliceRange_one, pick_run, List.size_toArray] <;> rfl
def rSlL (K : PySem.W.Frag) : V → Option Int → Option Int → Hp → VK → Prop := fun x lo hi H Q => ∃ a xs, x = .ref a ∧ SqL K H a xs ∧ ∀ p, H p = none → Q (.ref p) (upd H p (.lst (cutV xs lo hi)))
theorem sl_list : SlR X (rSlL X.K) := by
  intro pins s σ H x v vl vu lo hi sl Q I rx hs pl pu h
  obtain ⟨a, xs, rfl, hx, q⟩ := h
  cases rx
  obtain ⟨its, r, ht, hz⟩ := I.list hx
  have hlen := r.length
  refine ⟨"list", _, slot_list_getitem.lookup, ht.isList.typeIs, ?_⟩
  refine wpAny_getItem_list_slice ht.isList hs pl pu .none (by simp) ?_ (by rw [List.size_toArray] <;> omega)
  rw [slicePick_cut, ← hlen]
  refine ⟨.ref s.heap.objs.size, _, I.laid (t' := s.toks) (o := .lst (cutV xs lo hi)) (fun b ob q => Heap.get?_push_of_some _ q) (Nat.le_refl _) ?_, rfl, q _ (I.hok.fresh (Nat.le_refl _))⟩
  exact ⟨Nat.le_trans (cutV_length xs lo hi) hz, _, 0, (r.drop (HT.sIx xs.length 0 lo)).take (HT.sIx xs.length xs.length hi - HT.sIx xs.length 0 lo), Heap.get?_push_size _ rfl⟩

theorem CallR.or {f : Value} {r r' : List V → Hp → VK → Prop} (h : CallR X f r) (h' : CallR X f r') : CallR X f (fun xs H Q => r xs H Q ∨ r' xs H Q) := by
  intro pins s σ H xs us Q I rs q
  rcases q with q | q
  · exact h pins s σ H xs us Q I rs q
  · exact h' pins s σ H xs us Q I rs q
theorem call_list_of : CallR X (.type "list") (fun xs H Q => ∃ p ys, xs = [.ref p] ∧ (SqL X.K H p ys ∨ SqT X.K H p ys) ∧ ∀ l, H l = none → Q (.ref l) (upd H l (.lst ys))) := by
  intro pins s σ H xs us Q I r h
  obtain ⟨p, ys, rfl, hq, q⟩ := h
  obtain ⟨u, rfl, rx⟩ := vals1 r
  cases rx
  have fin : ∀ (its : List Value), Vals ys its → ys.length ≤ sizeLine → ∀ (h' : Heap) (c' : Nat), (∀ b o', s.heap.get? b = some o' → h'.get? b = some o') →
      h'.get? s.heap.objs.size = some { cls := .type "list", dict := none, data := .seq its.toArray c', slots := #[] } → EP X pins σ Q (.ref s.heap.objs.size) { s with heap := h' } := fun its r' hz h' c' kp e =>
    ⟨.ref s.heap.objs.size, _, I.laid (t' := s.toks) kp (Nat.le_refl _) (show ObjOk X.prog X.w _ h' _ (.lst ys) from ⟨hz, its, c', r', e⟩), rfl, q _ (I.hok.fresh (Nat.le_refl _))⟩
  rcases hq with hq | hq
  · obtain ⟨its, r', pl, hz⟩ := I.list hq
    have hlen := r'.length
    obtain ⟨o, ho, hc, n, hd⟩ := pl.isList
    exact call_list_seq p (.inl rfl) ho hc hd (fun h' c' kp e => fin its r' hz h' c' kp e) (by simp only [List.size_toArray] <;> omega)
  · obtain ⟨its, r', pl, hz⟩ := I.tuple hq
    have hlen := r'.length
    obtain ⟨o, ho, hc, n, hd⟩ := pl
    exact call_list_seq p (.inr rfl) ho hc hd (fun h' c' kp e => fin its r' hz h' c' kp e) (by simp only [List.size_toArray] <;> omega)
theorem call_tuple_of : CallR X (.type "tuple") (fun xs H Q => ∃ p ys, xs = [.ref p] ∧ ((SqL X.K H p ys ∧ ∀ l, H l = none → Q (.ref l) (upd H l (.tup ys))) ∨ (SqT X.K H p ys ∧ Q (.ref p) H))) := by
  intro pins s σ H xs us Q I r h
  obtain ⟨p, ys, rfl, h⟩ := h
  obtain ⟨u, rfl, rx⟩ := vals1 r
  cases rx
  rcases h with ⟨hq, q⟩ | ⟨hq, q⟩
  · obtain ⟨its, r', pl, hz⟩ := I.list hq
    have hlen := r'.length
    refine call_tuple_list pl.isList (fun h' kp => ?_) (by simp only [List.size_toArray] <;> omega)
    have I1 : Inv X pins σ H { s with heap := h' } := I.kept (t' := s.toks) kp
    have I2 : Inv X pins σ (upd H h'.objs.size (.tup ys)) { s with heap := h'.push { cls := .type "tuple", data := .seq its.toArray } } :=
      I1.laid (t' := s.toks) (fun b o e => Heap.get?_push_of_some _ e) (Nat.le_refl _) (show ObjOk X.prog X.w _ _ _ (.tup ys) from ⟨hz, its, r', IsTup.new _ _⟩)
    exact ⟨.ref h'.objs.size, _, I2, rfl, q _ (I1.hok.fresh (Nat.le_refl _))⟩
  · obtain ⟨its, r', pl, hz⟩ := I.tuple hq
    exact call_tuple_same pl ⟨.ref p, H, I, rfl, q⟩

def tyV (K : PySem.W.Frag) (T : String) (x : V) (H : Hp) : Prop := match x with
  | .str _ => T = "str"
  | .int _ => T = "int"
  | .ref p => (T = "list" ∧ ∃ xs, SqL K H p xs) ∨ (T = "tuple" ∧ ∃ o, K.lookup p = some o ∧ o.cls = .type "tuple" ∧ o.dict = none) ∨
      (T = "dict" ∧ ((∃ kvs, H p = some (.dK kvs)) ∨ ∃ kvs, H p = some (.dT kvs))) ∨ (T = "set" ∧ ∃ S n, H p = some (.set S n))
  | _ => False
theorem tyV_is {pins : List (Addr × Obj)} {σ : St} {H : Hp} {s : Shared} {T : String} {x : V} {v : Value} (I : Inv X pins σ H s) (r : RelV x v) (ty : tyV X.K T x H) :
    s.TypeIs v T ∧ ∀ a, v = .ref a → ∃ ob, s.heap.get? a = some ob ∧ ob.dict = none := by
  cases x with
  | str z =>
    obtain ⟨t, rfl⟩ := r
    cases (show T = "str" from ty)
    exact ⟨typeIs_str s z t, fun _ e => nomatch e⟩
  | int i =>
    obtain ⟨t, rfl⟩ := r
    cases (show T = "int" from ty)
    exact ⟨typeIs_int s i t, fun _ e => nomatch e⟩
  | ref p =>
    cases r
    rcases ty with ⟨rfl, xs, hq⟩ | ⟨rfl, o, hk, hc, hd⟩ | ⟨rfl, hk⟩ | ⟨rfl, S, n, hk⟩
    · obtain ⟨its, _, pl, _⟩ := I.list hq
      refine ⟨pl.isList.typeIs, fun a e => ?_⟩
      cases e
      obtain ⟨o, n, e, c, hd, _⟩ := pl
      exact ⟨o, e, hd⟩
    · refine ⟨⟨o, I.kIn p o hk, hc⟩, fun a e => ?_⟩
      cases e
      exact ⟨o, I.kIn _ o hk, hd⟩
    · have z : ∃ o, s.heap.get? p = some o ∧ o.ExactDict := by
        rcases hk with ⟨kvs, hk⟩ | ⟨kvs, hk⟩
        · obtain ⟨_, _, _, _, o, _, _, e, ex, _⟩ := I.hok p _ hk
          exact ⟨o, e, ex⟩
        · obtain ⟨_, _, _, _, o, _, _, e, ex, _⟩ := I.hok p _ hk
          exact ⟨o, e, ex⟩
      obtain ⟨o, e, ex⟩ := z
      refine ⟨⟨o, e, ex.1⟩, fun a e2 => ?_⟩
      cases e2
      exact ⟨o, e, ex.2.1⟩
    · obtain ⟨o, _, _, _, e, ex, _⟩ := I.hok p _ hk
      refine ⟨⟨o, e, ex.1⟩, fun a e2 => ?_⟩
      cases e2
      exact ⟨o, e, ex.2.1⟩
  | _ => exact False.elim ty
def tBM0 (K : PySem.W.Frag) (T : String) (r : V → List V → Hp → VK → Prop) (to : TE) : TE := fun σ H Q => to σ H fun x H1 => tyV K T x H1 ∧ r x [] H1 Q
def tBM (K : PySem.W.Frag) (T : String) (r : V → List V → Hp → VK → Prop) (to : TE) (t : TA) : TE := fun σ H Q => to σ H fun x H1 => tyV K T x H1 ∧ t σ H1 fun xs H2 => r x xs H2 Q
variable {o e : Expr} {es : List Expr} {to : TE} {t : TA} {name : Str} {apos cpos : Pos} {T id : String} {r : V → List V → Hp → VK → Prop}
theorem pe_bm0 (pa : PlainAttrs T) (slot : Slot T name id) (hty : typeOf (.builtin id) = pure (.type "method_descriptor")) (hm : MtR X id r) (ho : PE X o to)
    (hbase : attributeBase o name X.env (eval o X.env) = eval o X.env := by rfl) (hline : (apos.endLine == cpos.line) = true := by rfl) : PE X (.Call (.Attribute o name apos) [] [] cpos) (tBM0 X.K T r to) := by
  intro pins s σ H Q I h
  refine wpAny_Call_method0_late hbase hline (thn (ho pins s σ H _ I h) fun v s1 ⟨x, H1, I1, r1, ty, q1⟩ => ?_)
  obtain ⟨h1, h2⟩ := tyV_is I1 r1 ty
  exact ⟨T, id, pa, slot, hty, h1, h2, Calls.callWith_builtin rfl (PySem.evalArgs_none (hm pins s1 σ H1 x [] v [] Q I1 r1 .nil q1))⟩
theorem pe_bm (pa : PlainAttrs T) (slot : Slot T name id) (hty : typeOf (.builtin id) = pure (.type "method_descriptor")) (hm : MtR X id r) (ho : PE X o to) (ha : PA X (e :: es) t)
    (hbase : attributeBase o name X.env (eval o X.env) = eval o X.env := by rfl)
    (hfew : ((backTo cpos (starEach (e :: es) X.env)).all (fun x => !x.1) && (backToKw cpos (keywordEach [] X.env)).all (fun x => x.1.isSome)
      && decide ((e :: es).length + ([] : List Keyword).length + (if ([] : List Keyword).isEmpty then 0 else 1) < 30)) = true := by rfl)
    (hline : (apos.endLine == cpos.line) = true := by rfl) (hs : starEach (e :: es) X.env = (false, eval e X.env) :: starEach es X.env := by rfl) (hplain : (backTo cpos (starEach es X.env)).any (·.1) = false := by rfl) :
    PE X (.Call (.Attribute o name apos) (e :: es) [] cpos) (tBM X.K T r to t) := by
  intro pins s σ H Q I h
  refine wpAny_Call_method_late hbase hfew hline rfl (thn (ho pins s σ H _ I h) fun v s1 ⟨x, H1, I1, r1, ty, q1⟩ => ?_)
  obtain ⟨h1, h2⟩ := tyV_is I1 r1 ty
  refine ⟨T, id, pa, slot, hty, h1, h2, ?_⟩
  have hA := ha cpos pins s1 σ H1 _ I1 q1
  rw [hs] at hA ⊢
  refine Calls.callWith_builtin (by show (false || (backTo cpos (starEach es X.env)).any (·.1)) = false; rw [hplain] <;> rfl) (Calls.evalArgs_plain ?_)
  exact thn hA fun us s2 ⟨vs, H2, I2, r2, q2⟩ => hm pins s2 σ H2 x vs v us Q I2 r1 r2 q2
end
end L2

namespace L2
open PySem PySem.Spec PyProof.Rows

def MtM (X : Cx) (id : String) (r : V → List V → Hp → VK → Prop) : Prop :=
  ∀ (pins : List (Addr × Obj)) (s : Shared) (σ : St) (H : Hp) (x : V) (xs : List V) (v : Value) (us : List Value) (Q : VK), Inv X pins σ H s → RelV x v → Vals xs us → r x xs H Q →
    wpAny (model X.prog X.w) X.A (call (.builtin id) (v :: us)) (EP X pins σ Q) X.xe s

theorem Vals.one : ∀ {x : V} {us : List Value}, Vals [x] us → ∃ u, us = [u] ∧ RelV x u
  | _, _, .cons r .nil => ⟨_, rfl, r⟩
theorem Vals.two : ∀ {x y : V} {us : List Value}, Vals [x, y] us → ∃ u v, us = [u, v] ∧ RelV x u ∧ RelV y v
  | _, _, _, .cons r (.cons q .nil) => ⟨_, _, rfl, r, q⟩
theorem Vals.zero : ∀ {us : List Value}, Vals [] us → us = []
  | _, .nil => rfl
theorem Vals.reverse {xs : List V} {us : List Value} (h : Vals xs us) : Vals xs.reverse us.reverse := by
  induction h with
  | nil => exact .nil
  | cons r t ih => rw [List.reverse_cons, List.reverse_cons]; exact Vals.append ih (.cons r .nil)
theorem Vals.rep {xs : List V} {us : List Value} (h : Vals xs us) : ∀ k : Nat, Vals (List.replicate k xs).flatten (List.replicate k us).flatten
  | 0 => .nil
  | k + 1 => by
    rw [List.replicate_succ, List.replicate_succ, List.flatten_cons, List.flatten_cons]
    exact Vals.append h (Vals.rep h k)
theorem foldl_rep (its : List Value) : ∀ (k : Nat) (acc : List Value),
    List.foldl (fun x1 x2 => x1 ++ x2) acc.toArray (List.replicate k its.toArray) = (acc ++ (List.replicate k its).flatten).toArray
  | 0, acc => by simp
  | k + 1, acc => by
    have e : acc.toArray ++ its.toArray = (acc ++ its).toArray := by simp
    have e2 : (acc ++ its) ++ (List.replicate k its).flatten = acc ++ (List.replicate (k + 1) its).flatten := by
      rw [List.replicate_succ, List.flatten_cons, List.append_assoc]
    rw [← e2, ← foldl_rep its k (acc ++ its), ← e, List.replicate_succ, List.foldl_cons]

section
variable {X : Cx} {pins : List (Addr × Obj)} {σ : St} {H : Hp} {s : Shared} {l b : Addr} {xs ys zs : List V}

theorem Inv.lset {its its' : List Value} {n : Nat} {f : Array Value → Array Value} {t' : Nat} (I : Inv X pins σ H s) (hH : H l = some (.lst xs))
    (e : s.heap.get? l = some { cls := .type "list", data := .seq its.toArray n }) (hf : f its.toArray = its'.toArray) (hv : Vals ys its') (hz : ys.length ≤ sizeLine) :
    Inv X pins σ (upd H l (.lst ys)) { s with heap := s.heap.update l (Obj.mapSeq f), toks := t' } := by
  have q := PySem.IsL.update e f
  rw [hf] at q
  refine I.write (x := l) (e := l) (by rw [hH]; exact trivial) (.inl rfl) (fun b' u hb hu => (Heap.get?_update_other s.heap (Obj.mapSeq f) (Ne.symm hb)).trans hu) ⟨_, q⟩ ?_
  exact ⟨hz, its', _, hv, q⟩
theorem Inv.lnew {its : List Value} {t' : Nat} (I : Inv X pins σ H s) (hv : Vals ys its) (hz : ys.length ≤ sizeLine) :
    Inv X pins σ (upd H s.heap.objs.size (.lst ys)) { s with heap := s.heap.push { cls := .type "list", data := .seq its.toArray }, toks := t' } :=
  I.laid (fun _ _ q => Heap.get?_push_of_some _ q) (Nat.le_refl _) ⟨hz, its, 0, hv, Heap.get?_push_size _ rfl⟩
theorem Inv.fresh (I : Inv X pins σ H s) : H s.heap.objs.size = none := I.hok.fresh (Nat.le_refl _)
theorem Inv.lstM (I : Inv X pins σ H s) (hH : H l = some (.lst xs)) : xs.length ≤ sizeLine ∧ ∃ (its : List Value) (n : Nat), Vals xs its ∧ xs.length = its.length ∧ s.heap.get? l = some { cls := .type "list", data := .seq its.toArray n } := by
  obtain ⟨z, its, n, r, e⟩ := I.hok l _ hH
  exact ⟨z, its, n, r, r.length, e⟩

end

section
variable {X : Cx}

def rAppend : V → List V → Hp → VK → Prop := fun x vs H Q => ∃ l xs y, x = .ref l ∧ vs = [y] ∧ H l = some (.lst xs) ∧ xs.length < sizeLine ∧ Q .non (upd H l (.lst (xs ++ [y])))
theorem mt_append : MtM X "list.append" rAppend := by
  intro pins s σ H x vs v us Q I rx rv h
  obtain ⟨l, xs, y, rfl, rfl, hH, hz, q⟩ := h
  cases rx
  obtain ⟨u, rfl, ru⟩ := rv.one
  obtain ⟨z, its, n, r, hl, e⟩ := I.lstM hH
  refine call_meets F.slot_list_append ⟨_, e, rfl⟩ F.entry_list_append (F.args_list_append_2 _ _) (PySem.list_append l its.toArray n u (by rw [List.size_toArray]; omega)) ⟨e, ?_⟩
  refine ⟨.non, _, I.lset (its' := its ++ [u]) hH e (by simp) (r.append (.cons ru .nil)) ?_, rfl, q⟩
  rw [List.length_append, List.length_singleton]
  omega

def rReverse : V → List V → Hp → VK → Prop := fun x vs H Q => ∃ l xs, x = .ref l ∧ vs = [] ∧ H l = some (.lst xs) ∧ Q .non (upd H l (.lst xs.reverse))
theorem mt_reverse : MtM X "list.reverse" rReverse := by
  intro pins s σ H x vs v us Q I rx rv h
  obtain ⟨l, xs, rfl, rfl, hH, q⟩ := h
  cases rx
  have hus := rv.zero
  subst hus
  obtain ⟨z, its, n, r, hl, e⟩ := I.lstM hH
  refine call_meets F.slot_list_reverse ⟨_, e, rfl⟩ F.entry_list_reverse (F.args_list_reverse_1 _) (AutoSeq1.list_reverse_list_0 l its.toArray n (by rw [List.size_toArray]; omega)) ⟨e, ?_⟩
  refine ⟨.non, _, I.lset (its' := its.reverse) hH e (by simp) r.reverse ?_, rfl, q⟩
  rw [List.length_reverse]
  omega

def rCat : R2 := fun x y H Q => ∃ l b xs zs, x = .ref l ∧ y = .ref b ∧ H l = some (.lst xs) ∧ H b = some (.lst zs) ∧ xs.length + zs.length ≤ sizeLine ∧ ∀ p, H p = none → Q (.ref p) (upd H p (.lst (xs ++ zs)))
theorem op_cat : OpR X (binaryOp .Add) rCat := by
  intro pins s σ H x y v u Q I rx ry h
  obtain ⟨l, b, xs, zs, rfl, rfl, hH, hB, hz, q⟩ := h
  cases rx
  cases ry
  obtain ⟨z, its, n, r, hl, e⟩ := I.lstM hH
  obtain ⟨z2, its2, n2, r2, hl2, e2⟩ := I.lstM hB
  refine PySem.P.add_list e e2 ?_ (by rw [List.size_toArray, List.size_toArray]; omega)
  have ea : its.toArray ++ its2.toArray = (its ++ its2).toArray := by simp
  rw [ea]
  exact ⟨.ref _, _, I.lnew (t' := s.toks) (r.append r2) (by rw [List.length_append]; omega), rfl, q _ I.fresh⟩
theorem len_rep {α : Type} (xs : List α) (k : Nat) : (List.replicate k xs).flatten.length = k * xs.length := by
  induction k with
  | zero => simp
  | succ k ih => rw [List.replicate_succ, List.flatten_cons, List.length_append, ih, Nat.succ_mul, Nat.add_comm]
end

section
variable {prog : Program} {w : World} {A : Around} {E : Value → Shared → Prop} {s : Shared}
set_option maxRecDepth 100000 in
end

section
variable {X : Cx}
end
end L2

namespace L2
open PySem PySem.Spec PyProof.Rows

section
variable {κ : Type} [DecidableEq κ]
def valV (kvs : List (κ × V)) (k : κ) : Option V := (kvs.find? fun kv => decide (kv.1 = k)).map (·.2)
def putK (kvs : List (κ × V)) (k : κ) (v : V) : List (κ × V) :=
  if (kvs.any fun kv => decide (kv.1 = k)) = true then kvs.map (fun kv => if kv.1 = k then (kv.1, v) else kv) else kvs ++ [(k, v)]
def dropK (kvs : List (κ × V)) (k : κ) : List (κ × V) := kvs.filter fun kv => decide (kv.1 ≠ k)

theorem valV_pos {p : κ × V} {r : List (κ × V)} {k : κ} (e : p.1 = k) : valV (p :: r) k = some p.2 := by simp [valV, List.find?_cons, e]
theorem valV_neg {p : κ × V} {r : List (κ × V)} {k : κ} (e : ¬ p.1 = k) : valV (p :: r) k = valV r k := by simp [valV, List.find?_cons, e]
theorem valV_any (k : κ) : ∀ kvs : List (κ × V), (kvs.any fun kv => decide (kv.1 = k)) = (valV kvs k).isSome
  | [] => rfl
  | p :: r => by
    rw [List.any_cons]
    by_cases e : p.1 = k
    · simp only [valV_pos e, decide_eq_true e, Bool.true_or, Option.isSome_some]
    · rw [valV_neg e, decide_eq_false e, Bool.false_or]; exact valV_any k r
theorem length_putK (kvs : List (κ × V)) (k : κ) (v : V) : (putK kvs k v).length ≤ kvs.length + 1 := by
  unfold putK
  split
  · rw [List.length_map]; omega
  · rw [List.length_append, List.length_cons, List.length_nil]; omega
theorem RelO.isSome_eq {o : Option V} {u : Option Value} (r : RelO o u) : o.isSome = u.isSome := by
  cases o with
  | none => cases u with
    | none => rfl
    | some _ => exact (show False from r).elim
  | some _ => cases u with
    | none => exact (show False from r).elim
    | some _ => rfl
theorem RelO.getD {o : Option V} {u : Option Value} {d : V} {d' : Value} (r : RelO o u) (rd : RelV d d') : RelV (o.getD d) (u.getD d') := by
  cases o with
  | none => cases u with
    | none => exact rd
    | some _ => exact (show False from r).elim
  | some _ => cases u with
    | none => exact (show False from r).elim
    | some _ => exact r

theorem KV.val {kvs : List (κ × V)} {vs : List (κ × Value)} (r : KV kvs vs) (k : κ) : RelO (valV kvs k) (valueAt vs k) := by
  unfold KV at r
  induction r with
  | nil => exact True.intro
  | @cons p q ps qs h t ih =>
    obtain ⟨h1, h2⟩ := h
    by_cases e : p.1 = k
    · have e' : q.1 = k := h1.symm.trans e
      have b : valueAt (q :: qs) k = some q.2 := by simp [valueAt, List.find?_cons, e']
      rw [valV_pos e, b]; exact h2
    · have e' : ¬ q.1 = k := fun z => e (h1.trans z)
      have b : valueAt (q :: qs) k = valueAt qs k := by simp [valueAt, List.find?_cons, e']
      rw [valV_neg e, b]; exact ih
theorem KV.any {kvs : List (κ × V)} {vs : List (κ × Value)} (r : KV kvs vs) (k : κ) : (kvs.any fun kv => decide (kv.1 = k)) = vs.any fun kv => decide (kv.1 = k) := by
  unfold KV at r
  induction r with
  | nil => rfl
  | cons h t ih => rw [List.any_cons, List.any_cons, ih, h.1]
theorem KV.repl {kvs : List (κ × V)} {vs : List (κ × Value)} (r : KV kvs vs) (k : κ) {y : V} {u : Value} (ry : RelV y u) :
    KV (kvs.map fun kv => if kv.1 = k then (kv.1, y) else kv) (vs.map fun kv => if kv.1 = k then (kv.1, u) else kv) := by
  unfold KV at r ⊢
  induction r with
  | nil => exact .nil
  | @cons p q ps qs h t ih =>
    rw [List.map_cons, List.map_cons]
    refine .cons ?_ ih
    obtain ⟨h1, h2⟩ := h
    by_cases e : p.1 = k
    · rw [if_pos e, if_pos (h1.symm.trans e)]; exact ⟨h1, ry⟩
    · rw [if_neg e, if_neg (fun z => e (h1.trans z))]; exact ⟨h1, h2⟩
theorem KV.put {kvs : List (κ × V)} {vs : List (κ × Value)} (r : KV kvs vs) (k : κ) {y : V} {u : Value} (ry : RelV y u) : KV (putK kvs k y) (stored vs k u) := by
  unfold putK stored
  rw [r.any k]
  by_cases e : (vs.any fun kv => decide (kv.1 = k)) = true
  · rw [if_pos e, if_pos e]; exact r.repl k ry
  · rw [if_neg e, if_neg e]; exact Paired.snoc r ⟨rfl, ry⟩
theorem KV.drop {kvs : List (κ × V)} {vs : List (κ × Value)} (r : KV kvs vs) (k : κ) : KV (dropK kvs k) (without vs k) := by
  unfold KV at r ⊢
  unfold dropK without
  induction r with
  | nil => exact .nil
  | @cons p q ps qs h t ih =>
    obtain ⟨h1, h2⟩ := h
    rw [List.filter_cons, List.filter_cons]
    by_cases e : p.1 = k
    · have a : ¬ decide (p.1 ≠ k) = true := by simp [e]
      have b : ¬ decide (q.1 ≠ k) = true := by simp [h1.symm.trans e]
      rw [if_neg a, if_neg b]; exact ih
    · have e' : ¬ q.1 = k := fun z => e (h1.trans z)
      have a : decide (p.1 ≠ k) = true := by simp [e]
      have b : decide (q.1 ≠ k) = true := by simp [e']
      rw [if_pos a, if_pos b]; exact .cons ⟨h1, h2⟩ ih
theorem KV.keys {kvs : List (κ × V)} {vs : List (κ × Value)} (r : KV kvs vs) : kvs.map (·.1) = vs.map (·.1) := by
  unfold KV at r
  induction r with
  | nil => rfl
  | cons h t ih => rw [List.map_cons, List.map_cons, ih, h.1]
theorem KV.length {kvs : List (κ × V)} {vs : List (κ × Value)} (r : KV kvs vs) : kvs.length = vs.length := Paired.length r
end


theorem kV_is {P : Program} {w : World} {k : Key} {u : Value} (r : RelV (kV k) u) : (mixKind P w).is k u = true := by
  cases k with
  | inl i => obtain ⟨t, e⟩ := (show ∃ t, u = Value.int i t from r); subst e; exact mixKind_int P w i t
  | inr x => obtain ⟨t, e⟩ := (show ∃ t, u = Value.str x t from r); subst e; exact mixKind_str P w x t
theorem items_are {P : Program} {w : World} : ∀ {ks : List Key} {us : List Value}, Vals (ks.map kV) us → ItemsAre (mixKind P w) ks us
  | [], _, r => by rw [List.map_nil] at r; cases r; exact .nil
  | k :: ks, _, r => by
    rw [List.map_cons] at r
    cases r with
    | cons h t => exact .cons (kV_is h) (items_are t)

abbrev KT (H : Hp) : List (List Key × V) → List (List Key × Addr × Value) → Prop := Paired fun p q => p.1 = q.1 ∧ H q.2.1 = some (.tup (p.1.map kV)) ∧ RelV p.2 q.2.2
theorem KT.val {H : Hp} {kvs : List (List Key × V)} {xs : List (List Key × Addr × Value)} (r : KT H kvs xs) (k : List Key) : RelO (valV kvs k) ((atKey xs k).map (·.2)) := by
  induction r with
  | nil => exact True.intro
  | @cons p q ps qs h t ih =>
    obtain ⟨h1, _, h2⟩ := h
    by_cases e : p.1 = k
    · have e' : q.1 = k := h1.symm.trans e
      have b : atKey (q :: qs) k = some q.2 := by simp [atKey, List.find?_cons, e']
      rw [valV_pos e, b]; exact h2
    · have e' : ¬ q.1 = k := fun z => e (h1.trans z)
      have b : atKey (q :: qs) k = atKey qs k := by simp [atKey, List.find?_cons, e']
      rw [valV_neg e, b]; exact ih
theorem KT.repl {H : Hp} {kvs : List (List Key × V)} {xs : List (List Key × Addr × Value)} (r : KT H kvs xs) (k : List Key) {y : V} {u : Value} (ry : RelV y u) :
    KT H (kvs.map fun kv => if kv.1 = k then (kv.1, y) else kv) (xs.map (putAt k u)) := by
  induction r with
  | nil => exact .nil
  | @cons p q ps qs h t ih =>
    rw [List.map_cons, List.map_cons]
    refine .cons ?_ ih
    obtain ⟨h1, h2, h3⟩ := h
    unfold putAt
    by_cases e : p.1 = k
    · rw [if_pos e, if_pos (h1.symm.trans e)]; exact ⟨h1, h2, ry⟩
    · rw [if_neg e, if_neg (fun z => e (h1.trans z))]; exact ⟨h1, h2, h3⟩
theorem KT.put {H : Hp} {kvs : List (List Key × V)} {xs : List (List Key × Addr × Value)} (r : KT H kvs xs) (k : List Key) {b : Addr} {y : V} {u : Value} (hb : H b = some (.tup (k.map kV))) (ry : RelV y u) :
    KT H (putK kvs k y) (storedH xs k b u) := by
  have e : (kvs.any fun kv => decide (kv.1 = k)) = (atKey xs k).isSome := by
    rw [valV_any, (r.val k).isSome_eq, Option.isSome_map]
  unfold putK storedH
  rw [e]
  by_cases q : (atKey xs k).isSome = true
  · rw [if_pos q, if_pos q]; exact r.repl k ry
  · rw [if_neg q, if_neg q]; exact Paired.snoc r ⟨rfl, hb, ry⟩
theorem KT.keeps {H H' : Hp} {kvs : List (List Key × V)} {xs : List (List Key × Addr × Value)} (r : KT H kvs xs) (ht : ∀ b ys, H b = some (.tup ys) → H' b = some (.tup ys)) : KT H' kvs xs :=
  Paired.mapP r fun _ _ z => ⟨z.1, ht _ _ z.2.1, z.2.2⟩

section
variable {P : Program} {w : World} {H : Hp} {h : Heap} {a : Addr}
theorem rd_of {u : HO} (ok : HOk P w H h) (e : Rd H a u) : ObjOk P w H h a u := e.ok ok
theorem dk_rd {kvs : List (Key × V)} (ok : HOk P w H h) (e : Rd H a (.dK kvs)) : kvs.length ≤ sizeLine ∧ (a == sysModules) = false ∧ ∃ vs, KV kvs vs ∧ h.DictOf (mixKind P w) a vs :=
  show ObjOk P w H h a (.dK kvs) from rd_of ok e
theorem dk_of {kvs : List (Key × V)} (ok : HOk P w H h) (e : H a = some (.dK kvs)) : kvs.length ≤ sizeLine ∧ (a == sysModules) = false ∧ ∃ vs, KV kvs vs ∧ h.DictOf (mixKind P w) a vs := dk_rd ok (.inl e)
theorem key_of {ks : List Key} (ok : HOk P w H h) (e : H a = some (.tup (ks.map kV))) : (tupleKind (mixKind P w)).is h ks a := by
  obtain ⟨_, its, r, o, h1, h2, n, h3⟩ := (show ObjOk P w H h a (.tup (ks.map kV)) from ok a _ e)
  exact ⟨o, its.toArray, n, h1, h2, h3, by simpa using items_are r⟩
theorem dt_rd {kvs : List (List Key × V)} (ok : HOk P w H h) (e : Rd H a (.dT kvs)) : kvs.length ≤ sizeLine ∧ (a == sysModules) = false ∧
    ∃ xs, KT H kvs xs ∧ h.DictOfH (tupleKind (mixKind P w)) a xs := by
  obtain ⟨z, y, xs, r, o, es, ep, h1, h2, h3, h4, h5⟩ := (show ObjOk P w H h a (.dT kvs) from rd_of ok e)
  refine ⟨z, y, xs, r, o, es, ep, h1, h2, h3, h4, fun x hx => ?_, h5⟩
  have all : ∀ {l : List (List Key × V)} {m : List (List Key × Addr × Value)}, KT H l m → ∀ x ∈ m, (tupleKind (mixKind P w)).is h x.1 x.2.1 := by
    intro l m q
    induction q with
    | nil => intro x hx; exact nomatch hx
    | @cons p q ps qs hq t ih =>
      intro x hx
      rcases List.mem_cons.mp hx with e | hx
      · subst e
        exact key_of ok (by rw [← hq.1]; exact hq.2.1)
      · exact ih x hx
  exact all r x hx
theorem dt_of {kvs : List (List Key × V)} (ok : HOk P w H h) (e : H a = some (.dT kvs)) : kvs.length ≤ sizeLine ∧ (a == sysModules) = false ∧
    ∃ xs, KT H kvs xs ∧ h.DictOfH (tupleKind (mixKind P w)) a xs := dt_rd ok (.inl e)
end

def DGet (H : Hp) (a : Addr) (y : V) (r : Option V) : Prop :=
  (∃ kvs k, Rd H a (.dK kvs) ∧ y = kV k ∧ r = valV kvs k) ∨ ∃ kvs k b, Rd H a (.dT kvs) ∧ y = .ref b ∧ H b = some (.tup (k.map kV)) ∧ r = valV kvs k
def DPut (H : Hp) (a : Addr) (y v : V) (H' : Hp) : Prop :=
  (∃ kvs k, H a = some (.dK kvs) ∧ y = kV k ∧ kvs.length < sizeLine ∧ H' = upd H a (.dK (putK kvs k v))) ∨
  ∃ kvs k b, H a = some (.dT kvs) ∧ y = .ref b ∧ H b = some (.tup (k.map kV)) ∧ kvs.length < sizeLine ∧ H' = upd H a (.dT (putK kvs k v))
theorem DGet.k {H : Hp} {a : Addr} {kvs : List (Key × V)} {k : Key} (e : H a = some (.dK kvs)) : DGet H a (kV k) (valV kvs k) := .inl ⟨kvs, k, .inl e, rfl, rfl⟩
theorem DGet.t {H : Hp} {a b : Addr} {kvs : List (List Key × V)} {k : List Key} (e : H a = some (.dT kvs)) (eb : H b = some (.tup (k.map kV))) : DGet H a (.ref b) (valV kvs k) := .inr ⟨kvs, k, b, .inl e, rfl, eb, rfl⟩
theorem DPut.k {H : Hp} {a : Addr} {kvs : List (Key × V)} {k : Key} {v : V} (e : H a = some (.dK kvs)) (hl : kvs.length < sizeLine) : DPut H a (kV k) v (upd H a (.dK (putK kvs k v))) := .inl ⟨kvs, k, e, rfl, hl, rfl⟩
theorem DPut.t {H : Hp} {a b : Addr} {kvs : List (List Key × V)} {k : List Key} {v : V} (e : H a = some (.dT kvs)) (eb : H b = some (.tup (k.map kV))) (hl : kvs.length < sizeLine) :
    DPut H a (.ref b) v (upd H a (.dT (putK kvs k v))) := .inr ⟨kvs, k, b, e, rfl, eb, hl, rfl⟩


section
variable {X : Cx} {pins : List (Addr × Obj)} {σ : St} {H : Hp} {s : Shared} {a : Addr} {y v : V} {u r : Value} {o : Option V} {A : Around} {E : Value → Shared → Prop}

theorem Inv.big (I : Inv X pins σ H s) : sysModules < s.heap.objs.size := by
  have h : mainGlobals < s.heap.objs.size := (I.mod.glob.keeps I.bk).lt
  exact Nat.lt_trans (by decide) h

theorem d_getItem {Q : Value → Shared → Prop} (hu : A.units + 1 < cLine) (I : Inv X pins σ H s) (g : DGet H a y (some v)) (ry : RelV y u) (h : ∀ w' s', Inv X pins σ H s' → RelV v w' → Q w' s') :
    wpAny (model X.prog X.w) A (getItem (.ref a) u) Q E s := by
  rcases g with ⟨kvs, k, e, ey, l⟩ | ⟨kvs, k, b, e, ey, eb, l⟩
  · subst ey
    obtain ⟨z, hd, vs, rel, dd⟩ := dk_rd I.hok e
    obtain ⟨w', hw, rw'⟩ := RelO.some_of (v := v) (o := valueAt vs k) (by rw [l]; exact rel.val k)
    exact wpAny_getItem_of (kV_is ry) dd.mapOf hw (h w' _ (I.tok _) rw')
  · subst ey
    cases (show u = Value.ref b from ry)
    obtain ⟨z, hd, xs, rel, dd⟩ := dt_rd I.hok e
    obtain ⟨w', hw, rw'⟩ := RelO.some_of (v := v) (o := (atKey xs k).map (·.2)) (by rw [l]; exact rel.val k)
    obtain ⟨p, hp, hp2⟩ := Option.map_eq_some_iff.mp hw
    refine wpAny_getItem_heap (tupleKind_room_in1 hu) (key_of I.hok eb) dd hp ?_
    rw [hp2]
    exact h w' _ (I.tok _) rw'
theorem d_write {h' : Heap} {t' : Nat} {ob : HO} (I : Inv X pins σ H s) (mu : Mut (H a)) (hs : Heap.SameBut a s.heap h') (he : ∃ q, h'.get? a = some q) (new : ObjOk X.prog X.w (upd H a ob) h' a ob) :
    Inv X pins σ (upd H a ob) { s with heap := h', toks := t' } :=
  I.write (x := a) (e := a) mu (.inl rfl) (fun b q hb z => (hs.2 b hb).trans z) he new
theorem dk_new {P : Program} {w : World} {H' : Hp} {h' : Heap} {kvs : List (Key × V)} {vs : List (Key × Value)} (z : kvs.length ≤ sizeLine) (hd : (a == sysModules) = false) (rel : KV kvs vs) (dd : h'.DictOf (mixKind P w) a vs) :
    ObjOk P w H' h' a (.dK kvs) := ⟨z, hd, vs, rel, dd⟩
theorem d_setItem {H' : Hp} {Q : Unit → Shared → Prop} (hu : A.units + 1 < cLine) (I : Inv X pins σ H s) (g : DPut H a y v H') (ry : RelV y u) (rv : RelV v r) (h : ∀ s', Inv X pins σ H' s' → Q () s') :
    wpAny (model X.prog X.w) A (setItem (.ref a) u r) Q E s := by
  rcases g with ⟨kvs, k, e, ey, l, eH⟩ | ⟨kvs, k, b, e, ey, eb, l, eH⟩
  · subst ey eH
    obtain ⟨z, hd, vs, rel, dd⟩ := dk_of I.hok e
    have hz : vs.length ≤ sizeLine := by rw [← rel.length]; exact z
    have hl : (putK kvs k v).length ≤ sizeLine := by have := length_putK kvs k v; omega
    refine wpAny_setItem_pairs (hsz := hz) (kV_is ry) dd fun h' dd' hs => h _ ?_
    have he : ∃ q, h'.get? a = some q := let ⟨q, _, _, hq, _⟩ := dd'; ⟨q, hq⟩
    exact d_write I (by rw [e]; exact True.intro) hs he (dk_new hl hd (rel.put k rv) dd')
  · subst ey eH
    cases (show u = Value.ref b from ry)
    obtain ⟨z, hd, xs, rel, dd⟩ := dt_of I.hok e
    have hz : xs.length ≤ sizeLine := by rw [← Paired.length rel]; exact z
    have hl : (putK kvs k v).length ≤ sizeLine := by have := length_putK kvs k v; omega
    refine wpAny_setItem_heap (hsz := hz) (tupleKind_room_in1 hu) (key_of I.hok eb) dd fun h' dd' hs => h _ ?_
    obtain ⟨q, es, ep, hq, h2, h3, h4, _, h5⟩ := dd'
    refine d_write I (by rw [e]; exact True.intro) hs ⟨q, hq⟩ ⟨hl, hd, _, (rel.put k eb rv).keeps fun c ys ec => ?_, q, es, ep, hq, h2, h3, h4, h5⟩
    rw [upd_ne (ne_of ec e (fun z => nomatch z))]
    exact ec
end

section
variable {X : Cx} {pins : List (Addr × Obj)} {σ : St} {H : Hp} {s : Shared} {a : Addr} {kvs : List (Key × V)} {k : Key} {u : Value} {A : Around} {E : Value → Shared → Prop}
theorem d_len {Q : Value → Shared → Prop} (I : Inv X pins σ H s) (e : Rd H a (.dK kvs)) (h : ∀ t s', Inv X pins σ H s' → Q (.int kvs.length t) s') : wpAny (model X.prog X.w) A (call (.builtin "len") [.ref a]) Q E s := by
  obtain ⟨z, hd, vs, rel, dd⟩ := dk_rd I.hok e
  refine call_len_dict hd dd (by rw [← rel.length]; rw [sizeLine_eq] at z; omega) ?_
  rw [← rel.length]
  exact h _ _ (I.tok _)
end


theorem dict_typeIs {X : Cx} {pins : List (Addr × Obj)} {σ : St} {H : Hp} {s : Shared} {a : Addr} {y : V} {o : Option V} (I : Inv X pins σ H s) (g : DGet H a y o) : s.TypeIs (.ref a) "dict" := by
  rcases g with ⟨kvs, k, e, _, _⟩ | ⟨kvs, k, b, e, _, _, _⟩
  · obtain ⟨_, _, vs, _, dd⟩ := dk_rd I.hok e
    exact dd.typeIs
  · obtain ⟨_, _, xs, _, dd⟩ := dt_rd I.hok e
    exact dd.typeIs
section
variable {X : Cx} {o i e value : Expr} {pos pos' tpos : Pos} {td ty tv : TE}
end


theorem dk_empty {P : Program} {w : World} {H : Hp} (h : Heap) (hb : sysModules < h.objs.size) : ObjOk P w H (h.push { cls := .type "dict", data := .dict #[] }) h.objs.size (.dK []) :=
  ⟨Nat.zero_le _, beq_eq_false_iff_ne.mpr (Ne.symm (Nat.ne_of_lt hb)), [], .nil, Heap.DictOf.new h⟩
theorem dt_empty {P : Program} {w : World} {H : Hp} (h : Heap) (hb : sysModules < h.objs.size) : ObjOk P w H (h.push { cls := .type "dict", data := .dict #[] }) h.objs.size (.dT []) :=
  ⟨Nat.zero_le _, beq_eq_false_iff_ne.mpr (Ne.symm (Nat.ne_of_lt hb)), [], .nil, _, #[], 0, Heap.get?_push_size _ rfl, ⟨rfl, rfl, rfl⟩, rfl, rfl, List.nodup_nil⟩
def tDNewK : TE := fun _ H Q => ∀ p, H p = none → Q (.ref p) (upd H p (.dK []))
def tDNewT : TE := fun _ H Q => ∀ p, H p = none → Q (.ref p) (upd H p (.dT []))
section
variable {X : Cx} {pos : Pos}
theorem pe_dnewK : PE X (.Dict [] [] pos) tDNewK := fun pins s σ H Q I h =>
  wpAny_Dict_empty ⟨.ref s.heap.objs.size, _, I.laid (a := s.heap.objs.size) (o := .dK []) (t' := s.toks) (fun _ _ q => Heap.get?_push_of_some _ q) (Nat.le_refl _) (dk_empty s.heap I.big), rfl, h _ (I.hok.fresh (Nat.le_refl _))⟩
theorem pe_dnewT : PE X (.Dict [] [] pos) tDNewT := fun pins s σ H Q I h =>
  wpAny_Dict_empty ⟨.ref s.heap.objs.size, _, I.laid (a := s.heap.objs.size) (o := .dT []) (t' := s.toks) (fun _ _ q => Heap.get?_push_of_some _ q) (Nat.le_refl _) (dt_empty s.heap I.big), rfl, h _ (I.hok.fresh (Nat.le_refl _))⟩
end

def tPairs : List (TE × TE) → St → Hp → (List (V × V) → Hp → Prop) → Prop
  | [], _, H, Q => Q [] H
  | (tk, tv) :: r, σ, H, Q => tk σ H fun x H1 => tv σ H1 fun y H2 => tPairs r σ H2 fun ps H3 => Q ((x, y) :: ps) H3
abbrev VV : List (V × V) → List (Value × Value) → Prop := Paired fun p q => RelV p.1 q.1 ∧ RelV p.2 q.2
def PPs (X : Cx) (pos : Pos) (keys : List (Option Expr)) (values : List Expr) (trs : List (TE × TE)) : Prop :=
  ∀ (pins : List (Addr × Obj)) (s : Shared) (σ : St) (H : Hp) (Q : List (V × V) → Hp → Prop), Inv X pins σ H s → tPairs trs σ H Q →
    wpAny (model X.prog X.w) X.A (evalPairs (pairTrees keys values X.env pos)) (fun vs s' => ∃ ps H', Inv X pins σ H' s' ∧ VV ps vs ∧ Q ps H') X.xe s
structure M1 (X : Cx) (o : Expr) (m : Str) (apos : Pos) (e : Expr) (cpos : Pos) : Prop where
  base : attributeBase o m X.env (eval o X.env) = eval o X.env
  few : ((backTo cpos (starEach [e] X.env)).all (fun x => !x.1) && (backToKw cpos (keywordEach [] X.env)).all (fun x => x.1.isSome)
    && decide (([e] : List Expr).length + ([] : List Keyword).length + (if ([] : List Keyword).isEmpty then 0 else 1) < 30)) = true
  line : (apos.endLine == cpos.line) = true
  trees : backTo cpos (starEach [e] X.env) = [(false, eval e X.env)]
structure M2 (X : Cx) (o : Expr) (m : Str) (apos : Pos) (e f : Expr) (cpos : Pos) : Prop where
  base : attributeBase o m X.env (eval o X.env) = eval o X.env
  few : ((backTo cpos (starEach [e, f] X.env)).all (fun x => !x.1) && (backToKw cpos (keywordEach [] X.env)).all (fun x => x.1.isSome)
    && decide (([e, f] : List Expr).length + ([] : List Keyword).length + (if ([] : List Keyword).isEmpty then 0 else 1) < 30)) = true
  line : (apos.endLine == cpos.line) = true
  trees : backTo cpos (starEach [e, f] X.env) = [(false, eval e X.env), (false, eval f X.env)]

section
variable {X : Cx} {pins : List (Addr × Obj)} {σ : St} {H : Hp} {s : Shared} {a : Addr} {y d : V} {u r : Value} {o : Option V} {A : Around} {E : Value → Shared → Prop}
end

section
variable {X : Cx} {o e f : Expr} {apos cpos : Pos} {td ty tx : TE}
end

section
variable {X : Cx} {pins : List (Addr × Obj)} {σ : St} {H : Hp} {s : Shared} {a : Addr} {kvs : List (Key × V)} {A : Around} {E : Value → Shared → Prop}
end


section
variable {X : Cx} {pins : List (Addr × Obj)} {σ : St} {H : Hp} {s : Shared} {a : Addr} {y : V} {u : Value} {A : Around} {E : Value → Shared → Prop}
end
end L2

namespace Att
open PySem PySem.W PySem.Calls PyProof.Rows

theorem ints_of_wellAll {P : Params} {h : Heap} : ∀ (ns : List Int) (vs : List Value), WellAll P h vs (ns.map WData.int) → IntsAre vs ns := by
  intro ns
  induction ns with
  | nil =>
    intro vs w
    rw [List.map_nil] at w
    cases w
    exact .nil
  | cons n ns ih =>
    intro vs w
    rw [List.map_cons] at w
    cases w with
    | cons a b =>
      cases a
      exact .cons _ _ (ih _ b)

theorem script_of {l : OpenLaw} {n : Nat} (hn : l.most = some n) {P : Params} {h : Heap} {args : List WData} {vals : List Value}
    (hpre : l.row.toRowW.claim.pre args = true) (hwl : WellAll P h vals args) :
    ∃ a vs ns, vals = [Value.ref a] ∧ args = [WData.list (ns.map WData.int)] ∧ h.get? a = some { cls := .type "list", data := .seq vs.toArray } ∧ IntsAre vs ns ∧ ns.length ≤ n := by
  have hsh : WShape.hasAll [] args [.list .int] = true := (pre_splitW hpre).1
  have hc : l.pre.holds [] { args := args } = true := (pre_splitW hpre).2
  obtain ⟨d, r, rfl, h1, h2⟩ := hasAllW_cons hsh
  obtain rfl := hasAllW_nil h2
  obtain ⟨xs, rfl, h3⟩ := hasW_list h1
  obtain ⟨ns, rfl⟩ := items_int h3
  have hlen : ns.length ≤ n := by
    unfold OpenLaw.pre at hc
    have h4 : (WTm.not (.lt (.lit (.int (n : Int))) (.len (.arg 0)))).holds [] { args := [.list (ns.map .int)] } = true := by
      have h4 := (holds_andW hc).1
      rw [hn] at h4
      exact h4
    have h5 := condW_of h4 (w_not (w_lt w_lit (w_len_list (w_arg rfl))))
    rw [List.length_map] at h5
    refine Nat.le_of_not_lt fun q => ?_
    have q' : (n : Int) < ((ns.length : Nat) : Int) := by omega
    first
      | (rw [decide_eq_true q'] at h5; exact absurd h5 (by decide))
      | (simp at h5; omega)
  cases hwl with
  | cons w1 w2 =>
    cases w2
    cases w1 with
    | list ho hall => exact ⟨_, _, ns, rfl, rfl, ho, ints_of_wellAll ns _ hall, hlen⟩

theorem post_true (l : OpenLaw) (args : List WData) : l.row.toRowW.claim.post args (.bool true) args = true :=
  postW_of (r := l.row.toRowW) (X := (true == true))
    (show WShape.has [] (.bool true) .bool = true by first | rfl | decide | simp [WShape.has, WShape.arms, WShape.armsAll])
    (show (WTm.eq .res (.lit (.bool true))).value [] { args := args, res := some (.bool true), after := args } = some (.bool (true == true)) from w_eq_bool (w_res rfl) w_lit) rfl

theorem attach_call {l : OpenLaw} {n : Nat} {q : Program} {loose : List Str} {XP : (Str → Option Value) → Heap → Prop} {YP : World → Heap → Prop} {d : DefRec}
    (hn : l.most = some n) (hdf : d.params.defaults = [])
    (call : ∀ (w : World) (s₀ s₁ : Shared) (mg mb : Str → Option Value) (fa : Addr) (o : Obj) (pm cd doc : Value) (a : Addr) (vs : List Value) (ns : List Int),
      Ground q loose [] XP w s₀ mg mb s₁.heap → YP w s₁.heap →
      s₁.heap.get? fa = some o → o.data = .func (docDef d.name d.params d.body d.scope pm cd doc) → s₁.heap.CodeRec cd d.name → mg d.name = some (.ref fa) →
      s₁.heap.get? a = some { cls := .type "list", data := .seq vs.toArray } → IntsAre vs ns → ns.length ≤ n → s₁.gens = #[] →
      codeAny (model l.prog w) callerA (.call (.ref fa) ⟨[.ref a], []⟩) (fun r s' => r = .ok (.ret (.bool true)) ∧ OldK s₁.heap s'.heap ∧ s'.os = s₁.os ∧ AllBare s'.gens) s₁) :
    WalkO q loose XP YP l.row.toRowW d [] (fun f vs => PySem.call f vs) := by
  intro w s₀ s₁ mg mb G Y fa o pm cd doc dV kV ho hd hcd hD hmg hg args vals as hpre hlay hrd hwl hlo
  obtain rfl : dV = .none := Dflts.none hD hdf
  obtain rfl : kV = .none := Dflts.noKw hD
  obtain ⟨a, vs, ns, rfl, rfl, hobj, hints, hlen⟩ := script_of hn hpre hwl
  refine enter_call (codeAny_mono (call w s₀ s₁ mg mb fa o pm cd doc a vs ns G Y ho (fd_plain hd) hcd hmg hobj hints hlen hg) fun r s' hq => ?_)
  obtain ⟨rfl, h2, h3, h4⟩ := hq
  exact ⟨.inl ⟨.bool true, .bool true, [], rfl, fun _ => rfl, .bool true, post_true l _, fun _ => ⟨List.Pairwise.nil, fun _ hm => (nomatch hm)⟩⟩, h2, h3, h4⟩

section
variable {prog : Program} {w : World} {A : Around} {E : Value → Shared → Prop} {s : Shared} {K : Frag}

end
end Att

namespace L2
open PySem PySem.Spec PyProof.Rows

theorem vals_ints : ∀ {vs : List Value} {ns : List Int}, IntsAre vs ns → Vals (ns.map V.int) vs
  | _, _, .nil => .nil
  | _, _, .cons n t h => .cons ⟨t, rfl⟩ (vals_ints h)

end L2

namespace L2
open PySem PySem.Spec PyProof.Rows

end L2



namespace L2
open PySem PySem.Spec PyProof.Rows

def defArgs (s : Stmt) : Arguments := match s with
  | .FunctionDef _ a _ _ _ _ _ _ _ _ => a
  | _ => { posonlyargs := [], args := [], vararg := none, kwonlyargs := [], kw_defaults := [], kwarg := none, defaults := [] }
def defBody (s : Stmt) : List Stmt := match s with
  | .FunctionDef _ _ b _ _ _ _ _ _ _ => b
  | _ => []
def defScope (s : Stmt) : Scope := match s with
  | .FunctionDef _ _ _ _ _ _ sc _ _ _ => sc
  | _ => { kind := .function, names := [], isGenerator := false, isCoroutine := false }

abbrev CX0 : CXT := fun _ _ _ _ _ _ => False
abbrev E0 : XK := fun _ _ _ => False
structure Fun (K : PySem.W.Frag) (x qual : Str) (st : Stmt) (f : Addr) (fd : FuncData) : Prop where
  ex : ∃ (oc : Value) (od : Option Addr) (kV doc pm : Value) (an : Option Addr) (cdv ct : Value) (osl : Array (Option Value)),
    fd = PySem.W.fnOf x qual (defArgs st) (defBody st) (defScope st) .none kV doc pm an cdv ct ∧ K.lookup f = some ⟨oc, od, .func fd, osl⟩ ∧ PySem.W.codeIn K cdv qual = true
  kp : PySem.W.keepIn K (.ref f) = true
section
variable {P : Program} {w : World} {K : PySem.W.Frag} {mg : Str → Option Value} {base : Heap}
theorem Fun.ok {x qual : Str} {st : Stmt} {f : Addr} {fd : FuncData} {N ps : List Str} {k : Nat} {sp : Sp} (F : Fun K x qual st f fd) (S : FnScope N ps (defScope st)) (len : ∀ vs H Q E, sp vs H Q E → vs.length = ps.length)
    (hbody : ∀ (cdv : Value) (A : Around) (outer : List Env) (s : Shared) (H : Hp) (vs : List V) (Q : VK) (E : XK), Room k (A.deeper (envOfC qual (defScope st) s.heap.objs.size f cdv)) → sp vs H Q E →
      ∃ t, PSs (cxOf CX0 P w K mg base N qual (defScope st) f cdv A outer s H E).nox (defBody st) t ∧ t { nx := fun _ H' => Q .non H', rt := Q } (start N vs) H) : FnOk P w K mg base CX0 (k + 1) f fd ps sp := by
  obtain ⟨oc, od, kV, doc, pm, an, cdv, ct, osl, rfl, lk, hcd⟩ := F.ex
  refine fn_of lk hcd S len fun A outer s H vs Q E hr hsp => ?_
  obtain ⟨t, h, q⟩ := hbody cdv A outer s H vs Q E hr hsp
  exact ⟨t, h.nox, q⟩
theorem Fun.binds {x qual : Str} {st : Stmt} {f : Addr} {fd : FuncData} {ps : List Str} (F : Fun K x qual st f fd)
    (h : ∀ (kV doc pm : Value) (an : Option Addr) (cdv ct : Value) (us : List Value), us.length = ps.length → bindArgs (PySem.W.fnOf x qual (defArgs st) (defBody st) (defScope st) .none kV doc pm an cdv ct) ⟨us, []⟩ = pure (ps.zip us)) : Binds K fd ps [] := by
  obtain ⟨oc, od, kV, doc, pm, an, cdv, ct, osl, rfl, lk, hcd⟩ := F.ex
  exact .all (h kV doc pm an cdv ct)
theorem fun_mk {x qual : Str} {st : Stmt} {f : Addr} {oc : Value} {od an : Option Addr} {osl : Array (Option Value)} {kV doc pm cdv ct : Value} (l : K.lookup f = some ⟨oc, od, .func (PySem.W.fnOf x qual (defArgs st) (defBody st) (defScope st) .none kV doc pm an cdv ct), osl⟩)
    (c : PySem.W.codeIn K cdv qual = true) (k : PySem.W.keepIn K (.ref f) = true) : Fun K x qual st f (PySem.W.fnOf x qual (defArgs st) (defBody st) (defScope st) .none kV doc pm an cdv ct) := ⟨⟨oc, od, kV, doc, pm, an, cdv, ct, osl, rfl, l, c⟩, k⟩
end
theorem small1000 {n : Nat} (h : n ≤ 1000) : n < sizeLine := Nat.lt_of_le_of_lt h (by decide)

section
variable {X : Cx}
theorem call_lenD : CallR X (.builtin "len") (fun xs H Q => ∃ a kvs, xs = [V.ref a] ∧ H a = some (.dK kvs) ∧ Q (.int kvs.length) H) := by
  intro pins s σ H xs us Q I r h
  obtain ⟨a, kvs, rfl, ha, q⟩ := h
  obtain ⟨u, rfl, ru⟩ := vals1 r
  cases ru
  exact d_len I (.inl ha) fun t s' I' => ⟨.int kvs.length, H, I', ⟨t, rfl⟩, q⟩
end

def Same (H H' : Hp) : Prop := ∀ b o, H b = some o → H' b = some o
theorem Same.refl (H : Hp) : Same H H := fun _ _ h => h
theorem Same.trans {H H1 H2 : Hp} (a : Same H H1) (b : Same H1 H2) : Same H H2 := fun c o h => b c o (a c o h)
theorem Same.free {H H' : Hp} (e : Same H H') {l : Addr} (h : H' l = Option.none) : H l = Option.none := by
  cases q : H l with
  | none => rfl
  | some o =>
    rw [e l o q] at h
    cases h
theorem Same.seq {K : PySem.W.Frag} {H H' : Hp} {a : Addr} {xs : List V} (e : Same H H') (h : SqL K H a xs) : SqL K H' a xs := by
  rcases h with (h | ⟨o, h⟩) | h
  · exact .inl (.inl (e _ _ h))
  · exact .inl (.inr ⟨o, e _ _ h⟩)
  · exact .inr h

section
variable {κ : Type} [DecidableEq κ]
end
end L2
namespace L2
open PySem PySem.Spec PyProof.Rows

inductive Caps (X : Cx) (scope : Scope) : List Str → List Nat → Prop where
  | nil : Caps X scope [] []
  | cons {y : Str} {i : Nat} {ys : List Str} {is : List Nat} (h1 : X.N[i]? = some y) (h2 : X.env.kindOf y = some .cell ∨ X.env.kindOf y = some .free) (h3 : scope.names.lookup y = some .free) (h : Caps X scope ys is) : Caps X scope (y :: ys) (i :: is)

structure CompScope (scope : Scope) (x : Str) (ys : List Str) : Prop where
  kind : scope.kind = .function
  nocell : ∀ y ∈ scope.names, y.2 ≠ .cell
  names : ∀ y ∈ scope.names, y.2 = .local → scope.names.lookup y.1 = some .local
  own : scope.names.lookup x = some .local
  all : ∀ y ∈ scope.names, y.2 = .free → y.1 ∈ ys
  nd : (x :: ys).Nodup

end L2
namespace L2
open PySem PySem.Spec PyProof.Rows

section
variable {prog : Program} {w : World} {A : Around} {R : Result → Shared → Prop} {s : Shared}
end
def PIfs (X : Cx) (ifs : List Expr) (tc : TT) : Prop := match ifs with
  | [] => tc = fun _ H Q => Q true H
  | [c] => PT X c tc
  | _ => False

section
variable {X : Cx}
end
end L2
namespace L2
open PySem PySem.Spec PyProof.Rows
section
variable {X : Cx}
end
end L2
namespace L2
open PySem PySem.Spec PyProof.Rows
def tyN (H : Hp) : V → Option String
  | .non => some "NoneType"
  | .bl _ => some "bool"
  | .int _ => some "int"
  | .str _ => some "str"
  | .ref a => match H a with
    | some (.lst _) => some "list"
    | some (.frz _ (.lst _)) => some "list"
    | some (.tup _) => some "tuple"
    | some (.dK _) => some "dict"
    | some (.dT _) => some "dict"
    | _ => none
  | _ => none
theorem tyN_of {K : PySem.W.Frag} {H : Hp} {x : V} {t : String} (h : tyN H x = some t) : TyOf K H x (.type t) := by
  cases x with
  | non => cases h; exact .non
  | bl b => cases h; exact .bl b
  | int i => cases h; exact .int i
  | str x => cases h; exact .str x
  | byt _ => cases h
  | flt _ => cases h
  | ty _ => cases h
  | ref a =>
    unfold tyN at h
    dsimp only at h
    split at h
    · rename_i e; cases h; exact .lst e
    · rename_i e; cases h; exact .frz e
    · rename_i e; cases h; exact .tup e
    · rename_i e; cases h; exact .dK e
    · rename_i e; cases h; exact .dT e
    · cases h
def tyL : List String := ["NoneType", "bool", "int", "str", "list", "tuple", "dict"]
theorem tyN_in {H : Hp} {x : V} {t : String} (h : tyN H x = some t) : t ∈ tyL := by
  cases x with
  | non => cases h; decide
  | bl b => cases h; decide
  | int i => cases h; decide
  | str x => cases h; decide
  | byt _ => cases h
  | flt _ => cases h
  | ty _ => cases h
  | ref a =>
    unfold tyN at h
    dsimp only at h
    split at h <;> first | (cases h; decide) | cases h
def isI (t T : String) : Bool := t == T || (T == "int" && t == "bool")
theorem kit_ty (K : PySem.W.Frag) : ∀ t ∈ tyL, ∀ T ∈ ["int", "bool", "str", "tuple", "list", "dict"], PySem.W.kitOne K (.type t) (.type T) = some (isI t T) := by
  intro t ht T hT
  simp only [tyL, List.mem_cons, List.not_mem_nil, or_false] at ht hT
  rcases ht with rfl | rfl | rfl | rfl | rfl | rfl | rfl <;> rcases hT with rfl | rfl | rfl | rfl | rfl | rfl <;> (unfold PySem.W.kitOne; first | rfl | decide +kernel | (simp only [PySem.W.kitCls]; rfl))
section
variable {X : Cx}
theorem call_isi : CallR X (.builtin "isinstance") (fun xs H Q => ∃ x T t, xs = [x, .ty T] ∧ T ∈ ["int", "bool", "str", "tuple", "list", "dict"] ∧ tyN H x = some t ∧ Q (.bl (isI t T)) H) := by
  intro pins s σ H xs us Q I r h
  obtain ⟨x, T, t, rfl, hT, ht, q⟩ := h
  obtain ⟨u, w', rfl, r1, r2⟩ := vals2 r
  cases r2
  exact isinst_ok I r1 (tyN_of ht) (kit_ty X.K t (tyN_in ht) T hT) fun tk => ⟨.bl _, H, I.tok tk, rfl, q⟩
end
end L2
namespace L2
open PySem PySem.Spec PyProof.Rows
section
variable {X : Cx}
end
end L2
namespace L2
open PySem PySem.Spec PyProof.Rows
@[irreducible] def Sel (b : Bool) (A B : Prop) : Prop := if b = true then A else B
theorem Sel.mk {b : Bool} {A B : Prop} (h1 : b = true → A) (h2 : b = false → B) : Sel b A B := by
  unfold Sel
  cases b with
  | true => exact h1 rfl
  | false => exact h2 rfl
theorem Sel.t {A B : Prop} (h : A) : Sel true A B := .mk (fun _ => h) fun e => by cases e
theorem Sel.f {A B : Prop} (h : B) : Sel false A B := .mk (fun e => by cases e) fun _ => h
theorem Sel.dec {p A B : Prop} [Decidable p] (h1 : p → A) (h2 : ¬ p → B) : Sel (decide p) A B := .mk (fun e => h1 (of_decide_eq_true e)) fun e => h2 (of_decide_eq_false e)
theorem Sel.ndec {p A B : Prop} [Decidable p] (h1 : ¬ p → A) (h2 : p → B) : Sel (!decide p) A B := .mk (fun e => h1 (by simpa using e)) fun e => h2 (by simpa using e)
theorem Sel.yes {b : Bool} {A B : Prop} (e : b = true) (h : A) : Sel b A B := by rw [e]; exact .t h
theorem Sel.no {b : Bool} {A B : Prop} (e : b = false) (h : B) : Sel b A B := by rw [e]; exact .f h
theorem sel_ite {b : Bool} {A B : Prop} (h : Sel b A B) : if b = true then A else B := by unfold Sel at h; exact h
theorem Sel.both {b : Bool} {A : Prop} (h : A) : Sel b A A := .mk (fun _ => h) fun _ => h

def mVar (i : Nat) : TE := fun σ H Q => match σ[i]? with | some (some v) => Q v H | _ => False
section
variable {X : Cx}
theorem PE.imp {e : Expr} {t t' : TE} (h : PE X e t) (i : ∀ σ H Q, t' σ H Q → t σ H Q) : PE X e t' := fun pins s σ H Q I q => h pins s σ H Q I (i _ _ _ q)
theorem PT.imp {e : Expr} {t t' : TT} (h : PT X e t) (i : ∀ σ H Q, t' σ H Q → t σ H Q) : PT X e t' := fun pins s σ H Q I q => h pins s σ H Q I (i _ _ _ q)
theorem PS.imp {e : Stmt} {t t' : TS} (h : PS X e t) (i : ∀ D σ H, t' D σ H → t D σ H) : PS X e t' := fun pins s σ H Q I q => h pins s σ H Q I (i _ _ _ q)
theorem OpR.imp {f : Value → Value → Sem Value} {r r' : R2} (h : OpR X f r) (i : ∀ x y H Q, r' x y H Q → r x y H Q) : OpR X f r' := fun pins s σ H x y v u Q I rx ry q => h pins s σ H x y v u Q I rx ry (i _ _ _ _ q)
theorem qv (i : Nat) {x : Str} {pos : Pos} (hN : X.N[i]? = some x := by rfl) (hv : Vis X.env.scope x := by first | exact Or.inl rfl | exact Or.inr (Or.inl rfl) | exact Or.inr (Or.inr rfl)) (hd : (x == ("__debug__" : Str)) = false := by decide)
    (hcd : (x == ("__classdict__" : Str)) = false := by decide) : PE X (.Name x pos) (mVar i) := (pe_var hN hv hd hcd).imp fun σ H Q q => by
  unfold mVar at q
  split at q
  · rename_i v e; exact ⟨v, e, q⟩
  · exact q.elim
theorem qgi {x : Str} {i : Int} {pos : Pos} (hm : ∃ t, X.mg x = some (.int i t)) (hg : Gl X x := by rfl) (hd : (x == ("__debug__" : Str)) = false := by decide) : PE X (.Name x pos) (tC (.int i)) := by
  obtain ⟨t, e⟩ := hm
  exact pe_glob hg e ⟨t, rfl⟩ hd
def mSub : R2 := fun x y H Q => match x, y with | .int i, .int j => Q (.int (i - j)) H | _, _ => False
theorem oSub : OpR X (binaryOp .Sub) mSub := op_sub.imp fun x y H Q q => by
  unfold mSub at q
  split at q
  · exact ⟨_, _, rfl, rfl, q⟩
  · exact q.elim
theorem op_mulG : OpR X (binaryOp .Mult) (rI IntMulOk fun i j => .int (i * j)) := opI fun _ _ _ _ _ _ _ hc q => mul_int q hc
def mMul : R2 := fun x y H Q => match x, y with
  | .int i, .int j => IntMulOk i j ∧ Q (.int (i * j)) H
  | _, _ => False
theorem oMul : OpR X (binaryOp .Mult) mMul := op_mulG.imp fun x y H Q q => by
  unfold mMul at q
  split at q
  · exact ⟨_, _, rfl, rfl, q.1, q.2⟩
  · exact q.elim
def mFdiv : R2 := fun x y H Q => match x, y with | .int i, .int j => (0 < j ∧ j < 1073741824) ∧ Q (.int (i / j)) H | _, _ => False
theorem oFdiv : OpR X (binaryOp .FloorDiv) mFdiv := op_fdiv.imp fun x y H Q q => by
  unfold mFdiv at q
  split at q
  · exact ⟨_, _, rfl, rfl, q.1, q.2⟩
  · exact q.elim
def mMod : R2 := fun x y H Q => match x, y with | .int i, .int j => 0 < j ∧ Q (.int (i % j)) H | _, _ => False
theorem oMod : OpR X (binaryOp .Mod) mMod := op_mod.imp fun x y H Q q => by
  unfold mMod at q
  split at q
  · exact ⟨_, _, rfl, rfl, q.1, q.2⟩
  · exact q.elim
def mPow : R2 := fun x y H Q => match x, y with | .int i, .int j => (0 ≤ j ∧ j ≤ 1000000 ∧ i.natAbs < 2 ^ 64) ∧ Q (.int (i ^ j.toNat)) H | _, _ => False
theorem oPow : OpR X (binaryOp .Pow) mPow := op_pow.imp fun x y H Q q => by
  unfold mPow at q
  split at q
  · exact ⟨_, _, rfl, rfl, q.1, q.2⟩
  · exact q.elim
def mShl : R2 := fun x y H Q => match x, y with | .int i, .int j => (0 ≤ j ∧ j ≤ 1000000 ∧ i.natAbs < 2 ^ 64) ∧ Q (.int (i * 2 ^ j.toNat)) H | _, _ => False
theorem oShl : OpR X (binaryOp .LShift) mShl := op_shl.imp fun x y H Q q => by
  unfold mShl at q
  split at q
  · exact ⟨_, _, rfl, rfl, q.1, q.2⟩
  · exact q.elim
def mShr : R2 := fun x y H Q => match x, y with | .int i, .int j => 0 ≤ j ∧ Q (.int (i / 2 ^ j.toNat)) H | _, _ => False
theorem oShr : OpR X (binaryOp .RShift) mShr := op_shr.imp fun x y H Q q => by
  unfold mShr at q
  split at q
  · exact ⟨_, _, rfl, rfl, q.1, q.2⟩
  · exact q.elim
def mXor : R2 := fun x y H Q => match x, y with | .int i, .int j => Q (.int (Builtin.bitXor i j)) H | _, _ => False
theorem oXor : OpR X (binaryOp .BitXor) mXor := op_xor.imp fun x y H Q q => by
  unfold mXor at q
  split at q
  · exact ⟨_, _, rfl, rfl, q⟩
  · exact q.elim
def mLt : R2 := fun x y H Q => match x, y with | .int i, .int j => Q (.bl (decide (i < j))) H | _, _ => False
theorem oLt : OpR X (compareOp .Lt) mLt := op_lt.imp fun x y H Q q => by
  unfold mLt at q
  split at q
  · exact ⟨_, _, rfl, rfl, q⟩
  · exact q.elim
def mLe : R2 := fun x y H Q => match x, y with | .int i, .int j => Q (.bl (decide (i ≤ j))) H | _, _ => False
theorem oLe : OpR X (compareOp .LtE) mLe := op_le.imp fun x y H Q q => by
  unfold mLe at q
  split at q
  · exact ⟨_, _, rfl, rfl, q⟩
  · exact q.elim
def mGt : R2 := fun x y H Q => match x, y with | .int i, .int j => Q (.bl (decide (j < i))) H | _, _ => False
theorem oGt : OpR X (compareOp .Gt) mGt := op_gt.imp fun x y H Q q => by
  unfold mGt at q
  split at q
  · exact ⟨_, _, rfl, rfl, q⟩
  · exact q.elim
def mEq : R2 := fun x y H Q => match x, y with
  | .int i, .int j => Q (.bl (decide (i = j))) H
  | .str i, .str j => Q (.bl (decide (i = j))) H
  | .bl i, .bl j => Q (.bl (decide (i = j))) H
  | .non, .non => Q (.bl true) H
  | .non, .int _ => Q (.bl false) H | .int _, .non => Q (.bl false) H | .non, .bl _ => Q (.bl false) H | .bl _, .non => Q (.bl false) H | .non, .str _ => Q (.bl false) H | .str _, .non => Q (.bl false) H
  | .int _, .str _ => Q (.bl false) H | .str _, .int _ => Q (.bl false) H | .bl _, .str _ => Q (.bl false) H | .str _, .bl _ => Q (.bl false) H
  | _, _ => False
theorem decV {α : Type} [DecidableEq α] {f : α → V} (hf : ∀ a b, f a = f b → a = b) (a b : α) : decide (f a = f b) = decide (a = b) := by
  by_cases h : a = b
  · subst h; simp
  · rw [decide_eq_false h, decide_eq_false fun e => h (hf a b e)]
theorem oEq : OpR X (compareOp .Eq) mEq := op_eq.imp fun x y H Q q => by
  unfold mEq at q
  split at q
  · exact ⟨rfl, by rw [decV (f := V.int) fun _ _ e => V.int.inj e]; exact q⟩
  · exact ⟨rfl, by rw [decV (f := V.str) fun _ _ e => V.str.inj e]; exact q⟩
  · exact ⟨rfl, by rw [decV (f := V.bl) fun _ _ e => V.bl.inj e]; exact q⟩
  · exact ⟨rfl, by simpa using q⟩
  all_goals first | exact q.elim | exact ⟨rfl, q⟩
def mNe : R2 := fun x y H Q => match x, y with
  | .int i, .int j => Q (.bl (!decide (i = j))) H
  | .str i, .str j => Q (.bl (!decide (i = j))) H
  | .bl i, .bl j => Q (.bl (!decide (i = j))) H
  | .non, .non => Q (.bl false) H
  | .non, .int _ => Q (.bl true) H | .int _, .non => Q (.bl true) H | .non, .bl _ => Q (.bl true) H | .bl _, .non => Q (.bl true) H | .non, .str _ => Q (.bl true) H | .str _, .non => Q (.bl true) H
  | .int _, .str _ => Q (.bl true) H | .str _, .int _ => Q (.bl true) H | .bl _, .str _ => Q (.bl true) H | .str _, .bl _ => Q (.bl true) H
  | _, _ => False
theorem oNe : OpR X (compareOp .NotEq) mNe := op_ne.imp fun x y H Q q => by
  unfold mNe at q
  split at q
  · exact ⟨rfl, by rw [decV (f := V.int) fun _ _ e => V.int.inj e]; exact q⟩
  · exact ⟨rfl, by rw [decV (f := V.str) fun _ _ e => V.str.inj e]; exact q⟩
  · exact ⟨rfl, by rw [decV (f := V.bl) fun _ _ e => V.bl.inj e]; exact q⟩
  · exact ⟨rfl, by simpa using q⟩
  all_goals first | exact q.elim | exact ⟨rfl, q⟩
def mIsN : R2 := fun x y H Q => match y with | .non => Q (.bl (match x with | .non => true | _ => false)) H | _ => False
theorem oIs : OpR X (compareOp .Is) mIsN := op_isN.imp fun x y H Q q => by
  unfold mIsN at q
  split at q
  · refine ⟨rfl, ?_⟩
    cases x <;> simpa using q
  · exact q.elim
def mNotN : R2 := fun x y H Q => match y with | .non => Q (.bl (match x with | .non => false | _ => true)) H | _ => False
theorem oIsNot : OpR X (compareOp .IsNot) mNotN := op_notN.imp fun x y H Q q => by
  unfold mNotN at q
  split at q
  · refine ⟨rfl, ?_⟩
    cases x <;> simpa using q
  · exact q.elim

def mTest (t : TE) : TT := fun σ H Q => t σ H fun x H' => match x with | .bl k => Q k H' | _ => False
theorem qtc {op : CmpOp} {r : R2} {a b : Expr} {ta tb : TE} {pos : Pos} (ho : OpR X (compareOp op) r) (ha : PE X a ta) (hb : PE X b tb) (hm : behindInMarks op b = false := by first | exact nomark _ | rfl) : PT X (.Compare a [op] [b] pos) (mTest (tOp r ta tb)) := by
  intro pins s σ H Q I h
  refine wpAny_isTrue_Compare1 (thn (ha pins s σ H _ I h) fun v s1 ⟨x, H1, I1, r1, q1⟩ => thn (hb pins s1 σ H1 _ I1 q1) fun u s2 ⟨y, H2, I2, r2, q2⟩ =>
    thn (ho pins s2 σ H2 x y v u _ I2 r1 r2 q2) fun c s3 ⟨z, H3, I3, r3, q3⟩ => ?_) hm
  cases z <;> first | exact q3.elim | (cases r3; exact wpAny_truthy_bool ⟨H3, I3, q3⟩)
theorem qc {op : CmpOp} {r : R2} {a b : Expr} {ta tb : TE} {pos : Pos} (ho : OpR X (compareOp op) r) (ha : PE X a ta) (hb : PE X b tb) (hm : behindInMarks op b = false := by first | exact nomark _ | rfl) : PE X (.Compare a [op] [b] pos) (tOp r ta tb) := pe_cmpR ho ha hb hm
def mChain (r r' : R2) (ta tb tc : TE) : TE := fun σ H Q => ta σ H fun x H1 => tb σ H1 fun y H2 => r x y H2 fun z H3 => match z with
  | .bl k => Sel k (tc σ H3 fun w' H4 => r' y w' H4 Q) (Q (.bl false) H3)
  | _ => False
theorem qch {op op' : CmpOp} {r r' : R2} {a b c : Expr} {ta tb tc : TE} {pos : Pos} (ho : OpR X (compareOp op) r) (ho' : OpR X (compareOp op') r') (ha : PE X a ta) (hb : PE X b tb) (hc : PE X c tc)
    (hm : lastMarks [op, op'] [b, c] = false := by with_unfolding_all rfl) : PE X (.Compare a [op, op'] [b, c] pos) (mChain r r' ta tb tc) := by
  intro pins s σ H Q I h
  refine Compare_chain (thn (ha pins s σ H _ I h) fun v s1 ⟨x, H1, I1, r1, q1⟩ => chain_link (thn (hb pins s1 σ H1 _ I1 q1) fun u s2 ⟨y, H2, I2, r2, q2⟩ =>
    thn (ho pins s2 σ H2 x y v u _ I2 r1 r2 q2) fun d s3 ⟨z, H3, I3, r3, q3⟩ => ?_)) hm
  cases z <;> first | exact q3.elim | skip
  rename_i k
  cases r3
  refine wpAny_truthy_bool ?_
  have q3 := sel_ite q3
  cases k with
  | false => exact ite_ff ⟨.bl false, H3, I3, rfl, q3⟩
  | true => exact ite_tt (chain_last (thn (hc pins s3 σ H3 _ I3 q3) fun w' s4 ⟨z', H4, I4, r4, q4⟩ => ho' pins s4 σ H4 y z' u w' Q I4 r2 r4 q4))
theorem qtch {op op' : CmpOp} {r r' : R2} {a b c : Expr} {ta tb tc : TE} {pos : Pos} (ho : OpR X (compareOp op) r) (ho' : OpR X (compareOp op') r') (ha : PE X a ta) (hb : PE X b tb) (hc : PE X c tc)
    (hm : lastMarks [op, op'] [b, c] = false := by with_unfolding_all rfl) : PT X (.Compare a [op, op'] [b, c] pos) (mTest (mChain r r' ta tb tc)) := by
  intro pins s σ H Q I h
  refine isTrue_chain (thn (ha pins s σ H _ I h) fun v s1 ⟨x, H1, I1, r1, q1⟩ => test_link (thn (hb pins s1 σ H1 _ I1 q1) fun u s2 ⟨y, H2, I2, r2, q2⟩ =>
    thn (ho pins s2 σ H2 x y v u _ I2 r1 r2 q2) fun d s3 ⟨z, H3, I3, r3, q3⟩ => ?_)) hm
  cases z <;> first | exact q3.elim | skip
  rename_i k
  cases r3
  refine wpAny_truthy_bool ?_
  have q3 := sel_ite q3
  cases k with
  | false => exact ite_ff ⟨H3, I3, q3⟩
  | true =>
    refine ite_tt (test_last (thn (hc pins s3 σ H3 _ I3 q3) fun w' s4 ⟨z', H4, I4, r4, q4⟩ => thn (ho' pins s4 σ H4 y z' u w' _ I4 r2 r4 q4) fun d' s5 ⟨z2, H5, I5, r5, q5⟩ => ?_))
    cases z2 <;> first | exact q5.elim | (cases r5; exact wpAny_truthy_bool ⟨H5, I5, q5⟩)
def mTru (K : PySem.W.Frag) (t : TE) : TT := fun σ H Q => t σ H fun x H' => match x with
  | .bl k => Q k H'
  | .non => Q false H'
  | .int i => Q (i != 0) H'
  | x => ∃ k, TruV K x H' k ∧ Q k H'
theorem qtb {e : Expr} {t : TE} (h : PE X e t) (he : ∀ whole, isTrue e X.env whole = (do let v ← whole; standAt e.pos; holding [v] (truthy v)) := by intro _; rfl) : PT X e (mTru X.K t) := by
  intro pins s σ H Q I q
  refine isTrue_plain (thn (h pins s σ H _ I q) fun v s1 ⟨x, H1, I1, r1, q1⟩ => tru_ok pins s1 σ H1 x v Q I1 r1 ?_) (he _)
  cases x <;> first | exact ⟨_, rfl, q1⟩ | exact q1
def mAnd (t u : TT) : TT := fun σ H Q => t σ H fun c H1 => Sel c (u σ H1 Q) (Q false H1)
def mOr (t u : TT) : TT := fun σ H Q => t σ H fun c H1 => Sel c (Q true H1) (u σ H1 Q)
theorem PW.imp {e : Expr} {t t' : TT} (h : PW X e t) (i : ∀ σ H Q, t' σ H Q → t σ H Q) : PW X e t' := fun whole pins s σ H Q I q => h whole pins s σ H Q I (i _ _ _ q)
variable {a b c : Expr} {ta tb : TE} {tA tB' : TT} {rest : List Expr} {pos : Pos}
theorem PT.mono {e : Expr} {t : TT} (h : PT X e t) {pins : List (Addr × Obj)} {s : Shared} {σ : St} {H : Hp} {Q Q' : Bool → Hp → Prop} (I : Inv X pins σ H s) (q : t σ H Q) (i : ∀ b H, Q b H → Q' b H) : wpAny (model X.prog X.w) X.A (isTrue e X.env (eval e X.env)) (TP X pins σ Q') X.xe s :=
  thn (h pins s σ H Q I q) fun b s' ⟨H', I', q'⟩ => ⟨H', I', i _ _ q'⟩
theorem qw_and1 (ha : PT X a tA) : PW X (.BoolOp .And [a] pos) tA := pw_and1 ha
theorem qw_or1 (ha : PT X a tA) : PW X (.BoolOp .Or [a] pos) tA := pw_or1 ha
theorem qw_and (ha : PT X a tA) (hb : PW X (.BoolOp .And (b :: rest) pos) tB') : PW X (.BoolOp .And (a :: b :: rest) pos) (mAnd tA tB') := by
  intro wh pins s σ H Q I h
  refine isTrue_and (thn (ha pins s σ H _ I h) fun c s1 ⟨H1, I1, q1⟩ => ?_)
  have q1 := sel_ite q1
  cases c with
  | true => exact hb wh pins s1 σ H1 Q I1 q1
  | false => exact ⟨H1, I1, q1⟩
theorem qw_or (ha : PT X a tA) (hb : PW X (.BoolOp .Or (b :: rest) pos) tB') : PW X (.BoolOp .Or (a :: b :: rest) pos) (mOr tA tB') := by
  intro wh pins s σ H Q I h
  refine isTrue_or (thn (ha pins s σ H _ I h) fun c s1 ⟨H1, I1, q1⟩ => ?_)
  have q1 := sel_ite q1
  cases c with
  | true => exact ⟨H1, I1, q1⟩
  | false => exact hb wh pins s1 σ H1 Q I1 q1
def mAndV (ta tb : TE) : TE := fun σ H Q => ta σ H fun x H1 => match x with | .bl c => Sel c (tb σ H1 Q) (Q (.bl false) H1) | _ => False
def mNotV (ta : TE) : TE := fun σ H Q => ta σ H fun x H1 => match x with | .bl c => Q (.bl (!c)) H1 | _ => False
theorem qand (ha : PE X a ta) (hb : PE X (.BoolOp .And (b :: rest) pos) tb) : PE X (.BoolOp .And (a :: b :: rest) pos) (mAndV ta tb) := by
  intro pins s σ H Q I h
  refine BoolOp_and (thn (ha pins s σ H _ I h) fun v s1 ⟨x, H1, I1, r1, q1⟩ => ?_)
  cases x <;> first | exact q1.elim | skip
  rename_i c
  cases r1
  refine wpAny_truthy_bool ?_
  have q1 := sel_ite q1
  cases c with
  | true => exact hb pins s1 σ H1 Q I1 q1
  | false => exact ⟨.bl false, H1, I1, rfl, q1⟩
theorem qnotV (ha : PE X a ta) : PE X (.UnaryOp .Not a pos) (mNotV ta) := by
  intro pins s σ H Q I h
  refine UnaryOp_ (thn (ha pins s σ H _ I h) fun v s1 ⟨x, H1, I1, r1, q1⟩ => ?_)
  cases x <;> first | exact q1.elim | skip
  rename_i c
  cases r1
  exact not_of (wpAny_truthy_bool ⟨.bl (!c), H1, I1, rfl, q1⟩)
def mIf (t : TT) (ta tb : TE) : TE := fun σ H Q => t σ H fun c H1 => Sel c (ta σ H1 Q) (tb σ H1 Q)
theorem qifx {c : Expr} (hc : PT X c tA) (ha : PE X a ta) (hb : PE X b tb) : PE X (.IfExp c a b pos) (mIf tA ta tb) := by
  intro pins s σ H Q I h
  refine wpAny_IfExp (thn (hc pins s σ H _ I h) fun d s1 ⟨H1, I1, q1⟩ => ?_)
  have q1 := sel_ite q1
  cases d with
  | true => exact ha pins s1 σ H1 Q I1 q1
  | false => exact hb pins s1 σ H1 Q I1 q1
def mIfS (c : TT) (t u : TS) : TS := fun D σ H => c σ H fun b H1 => Sel b (t D σ H1) (u D σ H1)
theorem qif {c : Expr} {l m : List Stmt} {tc : TT} {t u : TS} (hc : PT X c tc) (ha : PSs X l t) (hb : PSs X m u) : PS X (.If c l m pos) (mIfS tc t u) := by
  intro pins s σ H D I h
  refine wpAny_If (thn (hc pins s σ H _ I h) fun d s1 ⟨H1, I1, q1⟩ => ?_)
  have q1 := sel_ite q1
  cases d with
  | true => exact ha pins s1 σ H1 D I1 q1
  | false => exact hb pins s1 σ H1 D I1 q1
theorem qlen : CallR X (.builtin "len") (fun xs H Q => match xs with
    | [.str y] => y.length ≤ sizeLine ∧ Q (.int y.length) H
    | [.ref p] => (∃ xs, SqL X.K H p xs ∧ Q (.int xs.length) H) ∨ (∃ xs, SqT X.K H p xs ∧ Q (.int xs.length) H) ∨ ∃ kvs, H p = some (.dK kvs) ∧ Q (.int kvs.length) H
    | _ => False) := by
  intro pins s σ H xs us Q I r h
  split at h
  · rename_i y
    exact call_len pins s σ H _ us Q I r ⟨_, _, rfl, ⟨h.1, rfl⟩, h.2⟩
  · rename_i p
    rcases h with ⟨ys, h1, h2⟩ | ⟨ys, h1, h2⟩ | ⟨kvs, h1, h2⟩
    · exact call_len pins s σ H _ us Q I r ⟨_, _, rfl, .inl ⟨ys, h1, rfl⟩, h2⟩
    · exact call_len pins s σ H _ us Q I r ⟨_, _, rfl, .inr ⟨ys, h1, rfl⟩, h2⟩
    · exact call_lenD pins s σ H _ us Q I r ⟨p, kvs, rfl, h1, h2⟩
  · exact h.elim
end
end L2
namespace L2
open PySem PySem.Spec PyProof.Rows
section
variable {X : Cx} {tg : Expr}
def mNeg : V → Hp → VK → Prop := fun x H Q => match x with | .int i => Q (.int (-i)) H | _ => False
theorem uNeg : UnR X (unaryOp .USub) mNeg := fun pins s σ H x v Q I rx q => un_neg pins s σ H x v Q I rx (by
  unfold mNeg at q
  split at q
  · exact ⟨_, rfl, q⟩
  · exact q.elim)
def kLen (K : PySem.W.Frag) : List V → Hp → VK → Prop := fun xs H Q => match xs with
    | [.str y] => y.length ≤ sizeLine ∧ Q (.int y.length) H
    | [.ref p] => (∃ xs, SqL K H p xs ∧ Q (.int xs.length) H) ∨ (∃ xs, SqT K H p xs ∧ Q (.int xs.length) H) ∨ ∃ kvs, H p = some (.dK kvs) ∧ Q (.int kvs.length) H
    | _ => False
theorem cLen : CallR X (.builtin "len") (kLen X.K) := qlen
def kIsi : List V → Hp → VK → Prop := fun xs H Q => match xs with
  | [x, .ty T] => T ∈ ["int", "bool", "str", "tuple", "list", "dict"] ∧ ∃ t, tyN H x = some t ∧ Q (.bl (isI t T)) H
  | _ => False
theorem cIsi : CallR X (.builtin "isinstance") kIsi := fun pins s σ H xs us Q I r h => by
  unfold kIsi at h
  split at h
  · obtain ⟨h1, t, h2, h3⟩ := h
    exact call_isi pins s σ H _ us Q I r ⟨_, _, t, rfl, h1, h2, h3⟩
  · exact h.elim
def kList (K : PySem.W.Frag) : List V → Hp → VK → Prop := fun xs H Q => ∃ p ys, xs = [.ref p] ∧ (SqL K H p ys ∨ SqT K H p ys) ∧ ∀ l, H l = none → Q (.ref l) (upd H l (.lst ys))
theorem cList : CallR X (.type "list") (kList X.K) := call_list_of
def kTuple (K : PySem.W.Frag) : List V → Hp → VK → Prop := fun xs H Q => ∃ p ys, xs = [.ref p] ∧ ((SqL K H p ys ∧ ∀ l, H l = none → Q (.ref l) (upd H l (.tup ys))) ∨ (SqT K H p ys ∧ Q (.ref p) H))
theorem cTuple : CallR X (.type "tuple") (kTuple X.K) := call_tuple_of
def kStr : List V → Hp → VK → Prop := fun xs H Q => match xs with
  | [.int i] => i.natAbs.log2 < 1920 ∧ Q (.str (toString i)) H
  | _ => False
theorem cStr : CallR X (.type "str") kStr := fun pins s σ H xs us Q I r h => by
  unfold kStr at h
  split at h
  · exact call_str_int pins s σ H _ us Q I r ⟨_, rfl, h.1, h.2⟩
  · exact h.elim
end
end L2
namespace L2
open PySem PySem.Spec PyProof.Rows
structure Items (J : It) (n : Nat) (it : Nat → V) (Pv : Hp → Prop) : Prop where
  go : ∀ i H, i < n → Pv H → J.go i H
  yld : ∀ i H x H', i < n → Pv H → J.yld i H x H' → H' = H ∧ x = it i
  stop : ∀ H, Pv H → J.stop n H
theorem Items.list {K : PySem.W.Frag} {a : Addr} {xs : List V} (d : V) : Items (Itl K a) xs.length (fun i => xs.getD i d) (fun H => SqL K H a xs) where
  go := fun i H hi h => ⟨xs, xs[i], h, by simp [hi]⟩
  yld := fun i H x H' hi h y => ⟨y.1, by have := y.2 xs h; rw [List.getD_eq_getElem?_getD, this]; rfl⟩
  stop := fun H h => ⟨xs, h, Nat.le_refl _⟩
theorem Items.tuple {K : PySem.W.Frag} {a : Addr} {xs : List V} (d : V) : Items (Itt K a) xs.length (fun i => xs.getD i d) (fun H => SqT K H a xs) where
  go := fun i H hi h => ⟨xs, xs[i], h, by simp [hi]⟩
  yld := fun i H x H' hi h y => ⟨y.1, by have := y.2 xs h; rw [List.getD_eq_getElem?_getD, this]; rfl⟩
  stop := fun H h => ⟨xs, h, Nat.le_refl _⟩
theorem Items.range {lo : Int} {n : Nat} : Items (Itr lo n) n (fun i => .int (lo + i)) (fun _ => True) where
  go := fun i H hi _ => hi
  yld := fun i H x H' hi _ y => y
  stop := fun H _ => Nat.le_refl _
def CWd (n : Nat) (Pv : Nat → List V → Hp → Prop) : Nat → Nat → List V → Hp → Prop := fun i m ys H => i ≤ n ∧ m = n - i ∧ Pv i ys H
theorem CWd.next {n i : Nat} {Pv : Nat → List V → Hp → Prop} {ys : List V} {H : Hp} (hi : i < n) (h : Pv (i + 1) ys H) : ∃ m', m' < n - i ∧ CWd n Pv (i + 1) m' ys H := ⟨n - (i + 1), by omega, hi, rfl, h⟩
theorem Same.upd {H : Hp} {p : Addr} {o : HO} (h : H p = none) : Same H (upd H p o) := fun b u e => by rw [upd_ne (ne_of_none e h)]; exact e
theorem Same.put {H H' : Hp} {p : Addr} {o : HO} (s : Same H H') (h : H p = none) : Same H (L2.upd H' p o) := fun b u e => by rw [upd_ne (ne_of_none e h)]; exact s b u e
theorem Same.tyN {H H' : Hp} (s : Same H H') {v : V} {t : String} (h : L2.tyN H v = some t) : L2.tyN H' v = some t := by
  cases v with
  | ref a =>
    unfold L2.tyN at h ⊢
    dsimp only at h ⊢
    split at h <;> first | (rename_i e; rw [s _ _ e]; exact h) | cases h
  | _ => exact h
theorem atI_lt {xs : List V} {i : Int} (h0 : 0 ≤ i) (h1 : i < xs.length) : atI xs i = some (xs.getD i.toNat .non) := by
  unfold atI ixN
  rw [if_pos h0, if_pos h1]
  show xs[i.toNat]? = _
  rw [List.getD_eq_getElem?_getD]
  have : i.toNat < xs.length := by omega
  rw [List.getElem?_eq_getElem this]; rfl
end L2
namespace L2
open PySem PySem.Spec PyProof.Rows
def notStar : Expr → Bool
  | .Starred _ _ => false
  | _ => true
theorem starEach_plain {e : Expr} (h : notStar e = true) (rest : List Expr) (env : Env) : starEach (e :: rest) env = (false, eval e env) :: starEach rest env := by
  cases e <;> first | rfl | cases h
def noStars : List Expr → Bool
  | [] => true
  | e :: r => notStar e && noStars r
theorem noStars_any : ∀ {es : List Expr} {env : Env} {pos : Pos}, noStars es = true → (backTo pos (starEach es env)).any (·.1) = false
  | [], _, _, _ => rfl
  | e :: r, env, pos, h => by
    have h : (notStar e && noStars r) = true := h
    rw [Bool.and_eq_true] at h
    rw [starEach_plain h.1]
    show (false || (backTo pos (starEach r env)).any (·.1)) = false
    rw [noStars_any h.2]; rfl
section
variable {X : Cx} {e : Expr} {es : List Expr} {te : TE} {t : TA} {pos : Pos}
theorem qa_cons (ha : PE X e te) (hr : PA X es t) (hs : notStar e = true := by rfl) : PA X (e :: es) (tCons te t) := pa_cons ha hr (starEach_plain hs es X.env)
variable {x : Str} {p apos cpos : Pos} {id T : String} {r : List V → Hp → VK → Prop}
theorem q_callB (hc : CallR X (.builtin id) r) (hg : Gl X x) (hm : X.mg x = none) (hv : bootBuiltins x = some (.builtin id)) (ha : PA X (e :: es) t) (hn : x ≠ "__name__" := by decide) (hdb : (x == ("__debug__" : Str)) = false := by decide)
    (hs : noStars (e :: es) = true := by rfl) : PE X (.Call (.Name x p) (e :: es) [] pos) (tCB r t) :=
  have h : (notStar e && noStars es) = true := hs
  pe_callB hc hg hm hv ha hn hdb (starEach_plain (Bool.and_eq_true_iff.mp h).1 es X.env) (noStars_any (Bool.and_eq_true_iff.mp h).2)
theorem q_callTy (hc : CallR X (.type T) r) (hg : Gl X x) (hm : X.mg x = none) (hv : bootBuiltins x = some (.type T)) (ha : PA X (e :: es) t) (hn : x ≠ "__name__" := by decide) (hdb : (x == ("__debug__" : Str)) = false := by decide)
    (hs : noStars (e :: es) = true := by rfl) : PE X (.Call (.Name x p) (e :: es) [] pos) (tCB r t) :=
  have h : (notStar e && noStars es) = true := hs
  pe_callTy hc hg hm hv ha hn hdb (starEach_plain (Bool.and_eq_true_iff.mp h).1 es X.env) (noStars_any (Bool.and_eq_true_iff.mp h).2)
variable {CX : CXT} {k : Nat} {f C : Addr} {fd : FuncData} {ps : List Str} {sp : Sp} {dvs : List V} {ds : List Value} {E : XK} {m : Str} {o : Expr} {ta : TE}
theorem all_noStars : ∀ {es : List Expr} {env : Env} {pos : Pos}, noStars es = true → (backTo pos (starEach es env)).all (fun x => !x.1) = true
  | [], _, _, _ => rfl
  | e :: r, env, pos, h => by
    have h : (notStar e && noStars r) = true := h
    rw [Bool.and_eq_true] at h
    rw [starEach_plain h.1]
    show (true && (backTo pos (starEach r env)).all (fun x => !x.1)) = true
    rw [all_noStars h.2]; rfl
variable {to : TE} {name : Str} {rm : V → List V → Hp → VK → Prop}
theorem q_bm (pa : PlainAttrs T) (slot : Slot T name id) (hty : typeOf (.builtin id) = pure (.type "method_descriptor")) (hm : MtR X id rm) (ho : PE X o to) (ha : PA X (e :: es) t)
    (hbase : attributeBase o name X.env (eval o X.env) = eval o X.env := by rfl) (hfew : decide ((e :: es).length < 30) = true := by rfl)
    (hline : (apos.endLine == cpos.line) = true := by rfl) (hs : noStars (e :: es) = true := by rfl) : PE X (.Call (.Attribute o name apos) (e :: es) [] cpos) (tBM X.K T rm to t) :=
  have h : (notStar e && noStars es) = true := hs
  pe_bm pa slot hty hm ho ha hbase (by rw [all_noStars hs]; exact hfew) hline (starEach_plain (Bool.and_eq_true_iff.mp h).1 es X.env) (noStars_any (Bool.and_eq_true_iff.mp h).2)
end
end L2
namespace L2
open PySem PySem.Spec PyProof.Rows
structure QE (X : Cx) (e : Expr) (t : TE) : Prop where
  out : PE X e t
structure QT (X : Cx) (e : Expr) (t : TT) : Prop where
  out : PT X e t
structure QW (X : Cx) (e : Expr) (t : TT) : Prop where
  out : PW X e t
structure QA (X : Cx) (e : List Expr) (t : TA) : Prop where
  out : PA X e t
structure QS (X : Cx) (e : Stmt) (t : TS) : Prop where
  out : PS X e t
structure QSs (X : Cx) (e : List Stmt) (t : TS) : Prop where
  out : PSs X e t
structure QI (X : Cx) (tg iter : Expr) (t : TI) : Prop where
  out : PI X tg iter t
structure QG (X : Cx) (tg : Expr) (t : TG) : Prop where
  out : PG X tg t
structure QO (X : Cx) (e : Option Expr) (t : TO) : Prop where
  out : PO X e t
structure QIfs (X : Cx) (e : List Expr) (t : TT) : Prop where
  out : PIfs X e t
structure QP (X : Cx) (pos : Pos) (ks : List (Option Expr)) (vs : List Expr) (t : List (TE × TE)) : Prop where
  out : PPs X pos ks vs t
section
variable {X : Cx} {a b c e o : Expr} {es rest : List Expr} {ta tb tc te to tv : TE} {tA tB' : TT} {t : TA} {pos apos cpos p : Pos} {x y : Str}
theorem x_var (i : Nat) (hN : X.N[i]? = some x := by rfl) (hv : Vis X.env.scope x := by first | exact Or.inl rfl | exact Or.inr (Or.inl rfl) | exact Or.inr (Or.inr rfl)) (hd : (x == ("__debug__" : Str)) = false := by decide)
    (hcd : (x == ("__classdict__" : Str)) = false := by decide) : QE X (.Name x pos) (mVar i) := ⟨qv i hN hv hd hcd⟩
theorem x_gi {i : Int} (hm : ∃ t, X.mg x = some (.int i t)) (hg : Gl X x := by rfl) (hd : (x == ("__debug__" : Str)) = false := by decide) : QE X (.Name x pos) (tC (.int i)) := ⟨qgi hm hg hd⟩
theorem x_ty {T : String} (hm : X.mg x = none) (hv : bootBuiltins x = some (.type T)) (hg : Gl X x := by rfl) (hn : x ≠ "__name__" := by decide) (hd : (x == ("__debug__" : Str)) = false := by decide) : QE X (.Name x pos) (tC (.ty T)) := ⟨pe_bltn hg hm hv rfl hn hd⟩
theorem x_int {i : Int} {j} : QE X (.Constant (.int i) j pos) (tC (.int i)) := ⟨pe_int⟩
theorem x_bl {b : Bool} {j} : QE X (.Constant (.bool b) j pos) (tC (.bl b)) := ⟨pe_bl⟩
theorem x_non {j} : QE X (.Constant .none j pos) (tC .non) := ⟨pe_non⟩
theorem x_str {z : Str} {j} : QE X (.Constant (.str z) j pos) (tC (.str z)) := ⟨pe_str⟩
theorem x_neg (ha : QE X a ta) : QE X (.UnaryOp .USub a pos) (tUn mNeg ta) := ⟨pe_un uNeg ha.out⟩
theorem x_not (ha : QE X a ta) : QE X (.UnaryOp .Not a pos) (mNotV ta) := ⟨qnotV ha.out⟩
theorem x_op {op : Operator} {r : R2} (ho : OpR X (binaryOp op) r) (ha : QE X a ta) (hb : QE X b tb) : QE X (.BinOp a op b pos) (tOp r ta tb) := ⟨pe_op ho ha.out hb.out⟩
theorem x_cmp {op : CmpOp} {r : R2} (ho : OpR X (compareOp op) r) (ha : QE X a ta) (hb : QE X b tb) (hm : behindInMarks op b = false := by first | exact nomark _ | rfl) : QE X (.Compare a [op] [b] pos) (tOp r ta tb) := ⟨qc ho ha.out hb.out hm⟩
theorem x_chain {op op' : CmpOp} {r r' : R2} (ho : OpR X (compareOp op) r) (ho' : OpR X (compareOp op') r') (ha : QE X a ta) (hb : QE X b tb) (hc : QE X c tc) (hm : lastMarks [op, op'] [b, c] = false := by with_unfolding_all rfl) :
    QE X (.Compare a [op, op'] [b, c] pos) (mChain r r' ta tb tc) := ⟨qch ho ho' ha.out hb.out hc.out hm⟩
theorem x_one {op} (h : QE X a ta) : QE X (.BoolOp op [a] pos) ta := ⟨pe_one h.out⟩
theorem x_and (ha : QE X a ta) (hb : QE X (.BoolOp .And (b :: rest) pos) tb) : QE X (.BoolOp .And (a :: b :: rest) pos) (mAndV ta tb) := ⟨qand ha.out hb.out⟩
theorem x_if (hc : QT X c tA) (ha : QE X a ta) (hb : QE X b tb) : QE X (.IfExp c a b pos) (mIf tA ta tb) := ⟨qifx hc.out ha.out hb.out⟩
theorem x_nil : QA X [] tNil := ⟨pa_nil⟩
theorem x_cons (ha : QE X e te) (hr : QA X es t) (hs : notStar e = true := by rfl) : QA X (e :: es) (tCons te t) := ⟨qa_cons ha.out hr.out hs⟩
theorem x_lst (h : QA X es t) : QE X (.List es pos) (tLst t) := ⟨pe_lst h.out⟩
theorem x_tup {x1} (h : QA X es t) : QE X (.Tuple es x1 pos) (tTup t) := ⟨pe_tup h.out⟩
theorem x_ix {r : R2} (hr : IxR X r) (ha : QE X a ta) (hb : QE X b tb) (hs : PlainIx b) : QE X (.Subscript a b pos) (tOp r ta tb) := ⟨pe_ix hr ha.out hb.out hs⟩
theorem x_onone : QO X none tNoPart := ⟨po_none⟩
theorem x_osome (h : QE X e te) : QO X (some e) (tPart te) := ⟨po_some h.out⟩
theorem x_slice {r : V → Option Int → Option Int → Hp → VK → Prop} {lo hi : Option Expr} {tl th : TO} {p2 : Pos} (hr : SlR X r) (he : QE X e te) (hl : QO X lo tl) (hu : QO X hi th) : QE X (.Subscript e (.Slice lo hi none p2) pos) (tSl r te tl th) := ⟨pe_slice hr he.out hl.out hu.out⟩
variable {id T : String} {r : List V → Hp → VK → Prop}
theorem x_callB (hc : CallR X (.builtin id) r) (hm : X.mg x = none) (hv : bootBuiltins x = some (.builtin id)) (ha : QA X (e :: es) t) (hg : Gl X x := by rfl) (hn : x ≠ "__name__" := by decide) (hdb : (x == ("__debug__" : Str)) = false := by decide)
    (hs : noStars (e :: es) = true := by rfl) : QE X (.Call (.Name x p) (e :: es) [] pos) (tCB r t) := ⟨q_callB hc hg hm hv ha.out hn hdb hs⟩
theorem x_callTy (hc : CallR X (.type T) r) (hm : X.mg x = none) (hv : bootBuiltins x = some (.type T)) (ha : QA X (e :: es) t) (hg : Gl X x := by rfl) (hn : x ≠ "__name__" := by decide) (hdb : (x == ("__debug__" : Str)) = false := by decide)
    (hs : noStars (e :: es) = true := by rfl) : QE X (.Call (.Name x p) (e :: es) [] pos) (tCB r t) := ⟨q_callTy hc hg hm hv ha.out hn hdb hs⟩
variable {CX : CXT} {k : Nat} {f C : Addr} {fd : FuncData} {ps : List Str} {sp : Sp} {dvs : List V} {ds : List Value} {E : XK} {m : Str}
variable {name : Str} {rm : V → List V → Hp → VK → Prop}
theorem x_bm (pa : PlainAttrs T) (slot : Slot T name id) (hty : typeOf (.builtin id) = pure (.type "method_descriptor")) (hm : MtR X id rm) (ho : QE X o to) (ha : QA X (e :: es) t)
    (hbase : attributeBase o name X.env (eval o X.env) = eval o X.env := by rfl) (hfew : decide ((e :: es).length < 30) = true := by rfl)
    (hline : (apos.endLine == cpos.line) = true := by rfl) (hs : noStars (e :: es) = true := by rfl) : QE X (.Call (.Attribute o name apos) (e :: es) [] cpos) (tBM X.K T rm to t) := ⟨q_bm pa slot hty hm ho.out ha.out hbase hfew hline hs⟩
theorem x_tcmp {op : CmpOp} {r : R2} (ho : OpR X (compareOp op) r) (ha : QE X a ta) (hb : QE X b tb) (hm : behindInMarks op b = false := by first | exact nomark _ | rfl) : QT X (.Compare a [op] [b] pos) (mTest (tOp r ta tb)) := ⟨qtc ho ha.out hb.out hm⟩
theorem x_tchain {op op' : CmpOp} {r r' : R2} (ho : OpR X (compareOp op) r) (ho' : OpR X (compareOp op') r') (ha : QE X a ta) (hb : QE X b tb) (hc : QE X c tc) (hm : lastMarks [op, op'] [b, c] = false := by with_unfolding_all rfl) :
    QT X (.Compare a [op, op'] [b, c] pos) (mTest (mChain r r' ta tb tc)) := ⟨qtch ho ho' ha.out hb.out hc.out hm⟩
theorem x_test (h : QE X e te) (he : ∀ whole, isTrue e X.env whole = (do let v ← whole; standAt e.pos; holding [v] (truthy v)) := by intro _; rfl) : QT X e (mTru X.K te) := ⟨qtb h.out he⟩
theorem x_tnot (ha : QT X a tA) : QT X (.UnaryOp .Not a pos) (tNot tA) := ⟨pt_not ha.out⟩
theorem x_w (h : QW X e tA) : QT X e tA := ⟨h.out.pt⟩
theorem x_wand1 (ha : QT X a tA) : QW X (.BoolOp .And [a] pos) tA := ⟨qw_and1 ha.out⟩
theorem x_wor1 (ha : QT X a tA) : QW X (.BoolOp .Or [a] pos) tA := ⟨qw_or1 ha.out⟩
theorem x_wand (ha : QT X a tA) (hb : QW X (.BoolOp .And (b :: rest) pos) tB') : QW X (.BoolOp .And (a :: b :: rest) pos) (mAnd tA tB') := ⟨qw_and ha.out hb.out⟩
theorem x_wor (ha : QT X a tA) (hb : QW X (.BoolOp .Or (b :: rest) pos) tB') : QW X (.BoolOp .Or (a :: b :: rest) pos) (mOr tA tB') := ⟨qw_or ha.out hb.out⟩
variable {tg iter elt : Expr} {wi : TI} {ifs : List Expr} {scope : Scope} {ys : List Str} {is : List Nat} {px py spos : Pos}
theorem x_range1 (hm : X.mg "range" = none) (ha : QA X [a] t) (hg : Gl X "range" := by rfl) (hs : notStar a = true := by rfl) : QI X tg (.Call (.Name "range" p) [a] [] pos) (iRng1 t) := ⟨pi_range1 hg hm ha.out (starEach_plain hs [] X.env)⟩
theorem x_range2 (hm : X.mg "range" = none) (ha : QA X [a, b] t) (hg : Gl X "range" := by rfl) (hs : notStar a = true := by rfl) (hs2 : notStar b = true := by rfl) : QI X tg (.Call (.Name "range" p) [a, b] [] pos) (iRng2 t) :=
  ⟨pi_range2 hg hm ha.out (by rw [starEach_plain hs, starEach_plain hs2]; rfl) (starEach_plain hs2 [] X.env)⟩
variable {st : Stmt} {sts : List Stmt} {tS uS : TS} {i j : Nat}
theorem x_snil : QSs X [] tNext := ⟨pss_nil⟩
theorem x_sone (h : QS X st tS) : QSs X [st] tS := ⟨pss_one h.out⟩
theorem x_scons (h1 : QS X st tS) (h2 : QSs X sts uS) : QSs X (st :: sts) (tSeq tS uS) := ⟨pss_cons h1.out h2.out⟩
theorem x_ret (h : QE X e te) : QS X (.Return (some e) pos) (tRet te) := ⟨ps_ret h.out⟩
theorem x_ifS {l m : List Stmt} (hc : QT X c tA) (ha : QSs X l tS) (hb : QSs X m uS) : QS X (.If c l m pos) (mIfS tA tS uS) := ⟨qif hc.out ha.out hb.out⟩
theorem x_set (i : Nat) (hN : X.N.Nodup) (he : QE X e te) (hi : X.N[i]? = some x := by rfl) (hx : Loc X.env.scope x := by first | exact .inl rfl | exact .inr rfl)
    (hs : swapsWith e (some (.Name x p)) pos.line X.env = pure false := by rfl) (hf : X.fn x = true ∨ X.env.scope.names.lookup x = some .local := by first | exact .inl rfl | exact .inr rfl) : QS X (.Assign [.Name x p] e pos) (tAsg te (gName i)) := ⟨ps_set hN hi hx he.out hs hf⟩
theorem x_drop (h : QE X e te) (hs : swapsWith e none pos.line X.env = pure false := by rfl) : QS X (.Expr e pos) (tDrop te) := ⟨ps_expr h.out hs⟩
theorem x_for (i : Nat) (hN : X.N.Nodup) {body : List Stmt} (hi : QI X (.Name x px) iter wi) (hb : QSs X body tS) (hp : PassesOwn (model X.prog X.w) X.A X.env X.xe) (hc : X.calm = true := by rfl)
    (hj : X.N[i]? = some x := by rfl) (hx : Loc X.env.scope x := by first | exact .inl rfl | exact .inr rfl) (hf : X.fn x = true ∨ X.env.scope.names.lookup x = some .local := by first | exact .inl rfl | exact .inr rfl)
    (hs : ∀ x, foldedSetIterable iter X.env x = pure x := by intro _; rfl) : QS X (.For (.Name x px) iter body [] pos) (tFor wi (gName i) tS) := ⟨ps_for hp hc hi.out (pg_name hN hj hx hf) hb.out hs⟩
end
end L2
namespace L2
open PySem PySem.Spec PyProof.Rows
abbrev veM : List Value := [.type "ValueError", .type "Exception", .type "BaseException", .type "object"]
def ExcOk (K : PySem.W.Frag) (C : Addr) : Prop := PySem.W.excIn K C veM "ValueError.__new__" = true
structure Fly (P : Program) (w : World) (l : List Env) (H : Hp) (s : Shared) (cls fl : Value) (a : Addr) (H' : Hp) (s' : Shared) : Prop where
  os : s'.os = s.os
  bare : AllBare s'.gens
  un : Un (frs l) [] H H' s.heap s'.heap
  hok : HOk P w H' s'.heap
  new : s.heap.get? a = none
  free : H' a = none
  tr : ∃ oe vs a0 T oT ts, s'.heap.get? a = some oe ∧ oe.cls = cls ∧ oe.data = .fields vs ∧ vs[0]? = some a0 ∧ vs[1]? = some (.ref T) ∧ T ≠ a ∧ s'.heap.get? T = some oT ∧ oT.data = .fields ts ∧ ts[3]? = some fl ∧ s.heap.get? T = none ∧ H' T = none
def CX1 (P : Program) (w : World) : CXT := fun outer H s E e s' => ∃ a C H', e = .ref a ∧ Fly P w outer H s (.ref C) .none a H' s' ∧ E (.ref C) none H'

section
variable {P : Program} {w : World} {l : List Env} {H H' : Hp} {s s' : Shared} {cls fl fl' : Value} {a : Addr} {base : Heap}
theorem Fly.frames (F : Fly P w l H s cls fl a H' s') (ff : s.heap.FunFrames base l) (frf : ∀ b ∈ frs l, H b = none) : s'.heap.FunFrames base l := by
  have all : ∀ (k : List Env), (∀ b ∈ frs k, b ∈ frs l) → s.heap.FunFrames base k → s'.heap.FunFrames base k := by
    intro k
    induction k with
    | nil => intro _ _; trivial
    | cons env r ih =>
      intro hs hl
      obtain ⟨hk, ⟨L, o, hf, hn, ho, hd⟩, hr⟩ := hl
      have hL : L ∈ frs l := hs L (by unfold frs; rw [List.filterMap_cons, hf]; exact List.mem_cons_self)
      obtain ⟨sl, e⟩ := F.un.slot L o ho (frf L hL) hL (by simp)
      exact ⟨hk, ⟨L, _, hf, hn, e, hd⟩, ih (fun b hb => hs b (by unfold frs; rw [List.filterMap_cons, hf]; exact List.mem_cons_of_mem _ hb)) hr⟩
  exact all l (fun _ hb => hb) ff
end
end L2
namespace L2
open PySem PySem.Spec PyProof.Rows
section
variable {X : Cx} {pins : List (Addr × Obj)} {σ : St} {H H' : Hp} {s s' : Shared} {cls fl : Value} {a : Addr}
theorem Fly.inv (I : Inv X pins σ H s) (F : Fly X.prog X.w X.stack H s cls fl a H' s') : Inv X pins σ H' s' := I.call' (ch := []) F.os F.un F.hok F.bare fun b z => absurd z (by simp)
theorem Fly.up (I : Inv X pins σ H s) (hex : X.ex = []) (F : Fly X.prog X.w X.stack H s cls fl a H' s') : Fly X.prog X.w X.outer X.H₀ X.s₀ cls fl a H' s' := by
  have I2 := F.inv I
  have back : ∀ b, s.heap.get? b = none → X.s₀.heap.get? b = none := fun b e => by
    cases q : X.s₀.heap.get? b with
    | none => rfl
    | some o =>
      obtain ⟨o', e'⟩ := I.base.there b o q (by rw [hex]; simp)
      rw [e] at e'; cases e'
  obtain ⟨oe, vs, a0, T, oT, ts, h1, h2, h3, h4, h5, h6, h7, h8, h9, h10, h11⟩ := F.tr
  have b := I2.base
  rw [hex] at b
  exact ⟨I2.os, I2.bare, b, I2.hok, back a F.new, F.free, oe, vs, a0, T, oT, ts, h1, h2, h3, h4, h5, h6, h7, h8, h9, back T h10, h11⟩
end

def PassS (CX : CXT) (X : Cx) (E : St → XK) : Prop := ∀ (pins : List (Addr × Obj)) (σ : St) (H : Hp) (s : Shared) (e : Value) (s' : Shared), Inv X pins σ H s → CX X.stack H s (E σ) e s' → X.xe e s'
theorem passF {P : Program} {w : World} {X : Cx} : PassS (CX1 P w) X (fun _ => E0) := fun pins σ H s e s' I ⟨_, _, _, _, _, h⟩ => h.elim

section
variable {P : Program} {w : World} {K : PySem.W.Frag} {mg : Str → Option Value} {base : Heap} {N : List Str} {qual : Str} {scope : Scope} {f : Addr} {cd : Value} {A : Around} {outer : List Env} {s : Shared} {H : Hp} {E : XK}
end

def tCallX (sp : Sp) (E : St → XK) (t : TA) : TE := fun σ H Q => t σ H fun vs H1 => sp vs H1 Q (E σ)
section
variable {X : Cx} {CX : CXT} {k : Nat} {f : Addr} {fd : FuncData} {ps : List Str} {sp : Sp} {E : St → XK} {x : Str} {p pos : Pos} {e : Expr} {es : List Expr} {t : TA}
theorem run_fnX {pins : List (Addr × Obj)} {σ : St} {H : Hp} {s : Shared} {Q : VK} {us : List Value} {vs : List V} (F : FnOk X.prog X.w X.K X.mg X.base CX k f fd ps sp) (hr : Room k X.A) (hb : Binds X.K fd ps []) (hx : PassS CX X E)
    (I : Inv X pins σ H s) (r : Vals vs us) (h : sp vs H Q (E σ)) : wpAny (model X.prog X.w) X.A (call (.ref f) us) (EP X pins σ Q) X.xe s := by
  have hl : us.length = ps.length := by rw [← r.length]; exact F.len _ _ _ _ h
  have hb' := hb s us I.kIn (by rw [List.append_nil]; exact hl)
  rw [List.append_nil] at hb'
  refine wpAny_call (codeAny_mono (F.run X.A X.stack s H ⟨us, []⟩ us vs Q (E σ) hr I.env0 hb' r h) fun r s' hq => ?_)
  cases r with
  | error e => exact hx pins σ H s e s' I hq
  | ok fl =>
    cases fl with
    | ret u => exact I.after hq
    | next => exact False.elim hq
    | brk => exact False.elim hq
    | cont => exact False.elim hq
theorem x_callX (F : FnOk X.prog X.w X.K X.mg X.base CX k f fd ps sp) (hr : Room k X.A) (hm : X.mg x = some (.ref f)) (hk : PySem.W.keepIn X.K (.ref f) = true) (hb : Binds X.K fd ps []) (hx : PassS CX X E)
    (ha : QA X (e :: es) t) (hg : Gl X x := by rfl) (hdb : (x == ("__debug__" : Str)) = false := by decide) (hs : noStars (e :: es) = true := by rfl) : QE X (.Call (.Name x p) (e :: es) [] pos) (tCallX sp E t) := by
  refine ⟨fun pins s σ H Q I h => ?_⟩
  have h' : (notStar e && noStars es) = true := hs
  refine wpAny_Call_Name_kw (ld_glob I hg hm ?_ hdb)
  refine PySem.W.callWith_K (h₀ := X.base) I.ok.mod.kin hk (thn (ha.out pos pins s σ H _ I h) fun us s1 ⟨vs, H1, I1, r, q⟩ => ⟨I1.kIn, ?_⟩) (starEach_plain (Bool.and_eq_true_iff.mp h').1 es X.env) (noStars_any (Bool.and_eq_true_iff.mp h').2)
  exact run_fnX F hr hb hx I1 r q
end
end L2
namespace L2
open PySem PySem.Spec PyProof.Rows
def excO (C a : Addr) : HO := .ext fun h => ∃ o vs, h.get? a = some o ∧ o.cls = .ref C ∧ o.data = .fields vs
section
variable {X : Cx} {pins : List (Addr × Obj)} {σ : St} {H H1 H' : Hp} {s s0 : Shared} {a : Addr} {o : HO}
end
def cxH (X : Cx) (a : Addr) : Cx := { X with A := X.A.mark (some (.ref a)), calm := false, xe := fun _ _ => False }
section
variable {X : Cx} {pins : List (Addr × Obj)} {σ : St} {H : Hp} {s : Shared} {a : Addr}
theorem Cx.Ok.toH (ok : X.Ok) : (cxH X a).Ok := ⟨ok.mod, ok.kind, ok.glob, ok.blt, ok.above, ok.inj, ok.has, ok.cab, fun h => absurd (show false = true from h) Bool.false_ne_true, ok.frames, ok.stk, ok.exf, ok.bs, ok.bsz, ok.noex, ok.exfs, ok.funs, ok.frf⟩
theorem Inv.toH (I : Inv X pins σ H s) : Inv (cxH X a) pins σ H s := ⟨I.ok.toH, I.os, I.bare, I.base, I.loc, I.cell, I.free, I.freeC, I.pin, I.hok, I.len⟩
theorem Inv.ofH (ok : X.Ok) (I : Inv (cxH X a) pins σ H s) : Inv X pins σ H s := ⟨ok, I.os, I.bare, I.base, I.loc, I.cell, I.free, I.freeC, I.pin, I.hok, I.len⟩
theorem SP.ofH {D : Ends} {f : Flow} (ok : X.Ok) (h : SP (cxH X a) pins D f s) : SP X pins D f s := by
  cases f with
  | next => obtain ⟨σ', H', J, q⟩ := h; exact ⟨σ', H', J.ofH ok, q⟩
  | brk => obtain ⟨σ', H', J, q⟩ := h; exact ⟨σ', H', J.ofH ok, q⟩
  | cont => obtain ⟨σ', H', J, q⟩ := h; exact ⟨σ', H', J.ofH ok, q⟩
  | ret u => obtain ⟨v, σ', H', J, r, q⟩ := h; exact ⟨v, σ', H', J.ofH ok, r, q⟩
end
abbrev TH := Ends → St → Addr → Hp → Prop
def PH (X : Cx) (hs : List ExceptHandler) (t : TH) : Prop := ∀ (pins : List (Addr × Obj)) (s0 : Shared) (σ : St) (H1 H' : Hp) (C a : Addr) (s3 : Shared) (D : Ends), X.stack = X.env :: X.outer → X.env.frame = some X.env.locals → X.ex = [] →
  Inv X pins σ H1 s0 → Fly X.prog X.w X.stack H1 s0 (.ref C) .none a H' s3 → ExcOk X.K C → t D σ C H' → wpAny (model X.prog X.w) X.A (handleBy (.ref a) X.env hs) (SP X pins D) X.xe s3
structure QH (X : Cx) (hs : List ExceptHandler) (t : TH) : Prop where
  out : PH X hs t
section
variable {X : Cx}
variable {x n : Str} {np hp : Pos} {Dc : Addr} {b0 : Stmt} {suite : List Stmt} {rest : List ExceptHandler} {ts : TS} {r : TH} {i : Nat}
end
end L2
namespace L2
open PySem PySem.Spec PyProof.Rows
abbrev cxT (X : Cx) (pn : List (Addr × Obj)) (E' : Value → Shared → Prop) : Cx := { X with pn := pn, xe := E' }
section
variable {X : Cx} {pins pn : List (Addr × Obj)} {σ : St} {H : Hp} {s : Shared} {E' : Value → Shared → Prop}
theorem Cx.Ok.toT (ok : X.Ok) : (cxT X pn E').Ok := ⟨ok.mod, ok.kind, ok.glob, ok.blt, ok.above, ok.inj, ok.has, ok.cab, ok.hd, ok.frames, ok.stk, ok.exf, ok.bs, ok.bsz, ok.noex, ok.exfs, ok.funs, ok.frf⟩
theorem Inv.toT (I : Inv X pins σ H s) : Inv (cxT X (X.pn ++ pins) E') [] σ H s := ⟨I.ok.toT, I.os, I.bare, I.base, I.loc, I.cell, I.free, I.freeC, fun p hp => I.pin p (by
  have hp : p ∈ (X.pn ++ pins) ++ [] := hp
  rwa [List.append_nil] at hp), I.hok, I.len⟩
end
section
variable {X : Cx}
end
end L2
namespace L2
open PySem PySem.Spec PyProof.Rows
structure ExcGet (K : PySem.W.Frag) (C : Addr) : Prop where
  ga : PySem.W.findIn K (.ref C) "__getattribute__" = some (some (.builtin "BaseException.__getattribute__"))
  na : PySem.W.findIn K (.ref C) "__getattr__" = some none
  cl : PySem.W.findIn K (.ref C) "__class__" = some (some (.builtin "object.__class__"))
  mo : PySem.W.mroIn K C (.type "object") = some true
  mb : PySem.W.mroIn K C (.type "BaseException") = some true
section
variable {K : PySem.W.Frag} {prog : Program} {w : World} {A : Around} {E : Value → Shared → Prop} {h : Heap} {g : Array GenState} {d : Drawn} {t : Nat} {os : OsState} {a C : Addr} {o : Obj}
end
section
variable {X : Cx}
def kIsiE (K : PySem.W.Frag) : List V → Hp → VK → Prop := fun xs H Q => ∃ a C b c cv, xs = [.ref a, c] ∧ H a = some (excO C a) ∧ ExcOk K C ∧ ExcGet K C ∧ RelV c cv ∧ (∀ u, RelV c u → u = cv) ∧ PySem.W.kitOne K (.ref C) cv = some b ∧ Q (.bl b) H
theorem kIsiE.own {K : PySem.W.Frag} {H : Hp} {Q : VK} {a C D : Addr} {b : Bool} (ha : H a = some (excO C a)) (hC : ExcOk K C) (G : ExcGet K C) (hk : PySem.W.kitOne K (.ref C) (.ref D) = some b) (q : Q (.bl b) H) : kIsiE K [.ref a, .ref D] H Q :=
  ⟨a, C, b, .ref D, .ref D, rfl, ha, hC, G, rfl, fun u e => e, hk, q⟩
theorem kIsiE.ty {K : PySem.W.Frag} {H : Hp} {Q : VK} {a C : Addr} {T : String} {b : Bool} (ha : H a = some (excO C a)) (hC : ExcOk K C) (G : ExcGet K C) (hk : PySem.W.kitOne K (.ref C) (.type T) = some b) (q : Q (.bl b) H) : kIsiE K [.ref a, .ty T] H Q :=
  ⟨a, C, b, .ty T, .type T, rfl, ha, hC, G, rfl, fun u e => e, hk, q⟩
end
end L2
namespace HT
open PySem PyProof.Rows
section
variable {prog : Program} {w : World} {A : Around} {E : Value → Shared → Prop} {s : Shared}
theorem getItem_tuple_whole {t sl : Addr} {items : Array Value} {vl vu : Value} {lo hi : Option Int} {Q : Value → Shared → Prop} (ht : IsTup s.heap t items) (hs : s.heap.IsSliceOf sl vl vu .none) (pl : IsPart vl lo) (pu : IsPart vu hi)
    (hw : sIx items.size 0 lo = 0 ∧ sIx items.size items.size hi = items.size) (h : Q (.ref t) s) : wpAny (model prog w) A (getItem (.ref t) (.ref sl)) Q E s := by
  obtain ⟨os, hos, hcs, hds⟩ := id hs
  have hTs : s.TypeIs (.ref sl) "slice" := ⟨os, hos, hcs⟩
  unfold getItem
  try with_reducible refine wpAny_holding ?_
  first | refine wpAny_bind (wpAny_pure ?_) | skip
  refine wpAny_bind (wpAny_sequenceKey ht.typeIs (by decide) ?_)
  refine wpAny_bind (wpAny_callSpecial?_slot (name := Str.ofString "__getitem__") ht.typeIs PyProof.Rows.slot_tuple_getitem
    (wpAny_call_entry PyProof.Rows.slot_tuple_getitem ht.typeIs entry_tuple_getitem ?_ (args_tuple_getitem _ _)))
  show wpAny _ _ (Builtin.Tuple.tupleItemsOf (.ref t) >>= _) _ _ s
  refine wpAny_bind (tupleItemsOf_ ht ?_)
  refine wpAny_bind (wpAny_typeOf hTs ?_)
  rw [if_pos (by decide)]
  refine wpAny_bind (sliceApplied_gen hs pl pu ?_)
  have hyes : (((sIx items.size 0 lo : Nat) : Int) == 0 && (1 : Int) == 1 && (sIx items.size items.size hi - sIx items.size 0 lo) == items.size) = true := by
    rw [hw.1, hw.2]; simp
  show wpAny _ _ (if (((sIx items.size 0 lo : Nat) : Int) == 0 && (1 : Int) == 1 && (sIx items.size items.size hi - sIx items.size 0 lo) == items.size) = true then _ else _) _ _ s
  rw [if_pos hyes]
  have hte : s.TypeIs (.ref t) "tuple" := ht.typeIs
  unfold Builtin.Tuple.tupleIsExact
  repeat (first | exact ⟨_, rfl, wpAny_pure h⟩ | (with_reducible refine wpAny_typeOf hte ?_) | wp_step)
end
end HT
namespace HT
open PySem PyProof.Rows
section
variable {prog : Program} {w : World} {A : Around} {E : Value → Shared → Prop} {s : Shared}
theorem cat_tup0 {t b : Addr} {ws : List Value} {Q : Value → Shared → Prop} (ht : IsTup s.heap t #[]) (hb : IsTup s.heap b ws.toArray) (h1 : Q (.ref b) s) : wpAny (model prog w) A (binaryOp .Add (.ref t) (.ref b)) Q E s := by
  obtain ⟨⟨cls, dd, data, sl⟩, ho, hc, n, hd⟩ := id ht
  obtain ⟨⟨cls2, dd2, data2, sl2⟩, ho2, hc2, n2, hd2⟩ := id hb
  simp only at hc hd hc2 hd2
  subst hc hd hc2 hd2
  exact concat_meets ⟨_, ho, rfl⟩ ⟨_, ho2, rfl⟩ noFill_tuple_add seq_tuple_add PySem.F.slot_tuple_add PySem.F.entry_tuple_add (PySem.F.args_tuple_add_2 _ _)
      (tuple_addW0 t b #[] ws.toArray n n2 dd dd2 sl sl2 (by simp)) ⟨ho, ho2, h1⟩
end
end HT
namespace L2
open PySem PySem.Spec PyProof.Rows
theorem Same.rfl' {H : Hp} : Same H H := fun _ _ e => e
theorem cutV_whole {xs : List V} {lo hi : Option Int} (h : HT.sIx xs.length 0 lo = 0 ∧ HT.sIx xs.length xs.length hi = xs.length) : cutV xs lo hi = xs := by
  unfold cutV
  rw [h.1, h.2, List.drop_zero, Nat.sub_zero, List.take_length]
section
variable {X : Cx}
def rSlTG : V → Option Int → Option Int → Hp → VK → Prop := fun x lo hi H Q => ∃ a xs, x = .ref a ∧ H a = some (.tup xs) ∧ ∀ p H', Same H H' → H' p = some (.tup (cutV xs lo hi)) → Q (.ref p) H'
theorem sl_tupG : SlR X rSlTG := by
  intro pins s σ H x v vl vu lo hi sl Q I rx hs pl pu h
  obtain ⟨a, xs, rfl, hx, q⟩ := h
  have hq : SqT X.K H a xs := .inl (.inl hx)
  by_cases hw : HT.sIx xs.length 0 lo = 0 ∧ HT.sIx xs.length xs.length hi = xs.length
  · cases rx
    obtain ⟨its, r, ht, hz⟩ := I.tuple hq
    have hlen : its.toArray.size = xs.length := by rw [List.size_toArray]; exact r.length.symm
    refine ⟨"tuple", _, PyProof.Rows.slot_tuple_getitem.lookup, ht.typeIs, ?_⟩
    refine HT.getItem_tuple_whole ht hs pl pu (by rw [hlen]; exact hw) ?_
    exact ⟨.ref a, H, I, rfl, q a H Same.rfl' (by rw [cutV_whole hw]; exact hx)⟩
  · exact sl_tup pins s σ H _ v vl vu lo hi sl Q I rx hs pl pu ⟨a, xs, rfl, hq, hw, fun p hp => q p _ (Same.upd hp) (upd_same ..)⟩
def rCatG : R2 := fun x y H Q => ∃ a b xs ys, x = .ref a ∧ y = .ref b ∧ H a = some (.tup xs) ∧ H b = some (.tup ys) ∧ xs.length + ys.length ≤ sizeLine ∧ ∀ p H', Same H H' → H' p = some (.tup (xs ++ ys)) → Q (.ref p) H'
theorem op_catG : OpR X (binaryOp .Add) rCatG := by
  intro pins s σ H x y v u Q I rx ry h
  obtain ⟨a, b, xs, ys, rfl, rfl, ha, hb, hz, q⟩ := h
  by_cases hx : xs = []
  · subst hx
    cases rx
    cases ry
    obtain ⟨its, r1, p1, _⟩ := I.tuple (.inl (.inl ha))
    obtain ⟨its2, r2, p2, _⟩ := I.tuple (.inl (.inl hb))
    cases r1
    exact HT.cat_tup0 p1 p2 ⟨.ref b, H, I, rfl, q b H Same.rfl' hb⟩
  · refine op_catT pins s σ H _ _ v u Q I rx ry ⟨a, b, xs, ys, rfl, rfl, .inl (.inl ha), .inl (.inl hb), hx, hz, fun e => ?_, fun _ p hp => q p _ (Same.upd hp) (upd_same ..)⟩
    subst e
    exact q a H Same.rfl' (by rw [List.append_nil]; exact ha)
def mAddG (K : PySem.W.Frag) : R2 := fun x y H Q => match x, y with
  | .int i, .int j => Q (.int (i + j)) H
  | .str i, .str j => i.length + j.length ≤ sizeLine ∧ Q (.str (i ++ j)) H
  | .ref a, .ref b => rCat (.ref a) (.ref b) H Q ∨ rCatG (.ref a) (.ref b) H Q
  | _, _ => False
theorem oAddG : OpR X (binaryOp .Add) (mAddG X.K) := (op_add.or (op_add_str.or (op_cat.or op_catG))).imp fun x y H Q q => by
  unfold mAddG at q
  split at q
  · exact .inl ⟨_, _, rfl, rfl, q⟩
  · exact .inr (.inl ⟨_, _, rfl, rfl, q.1, q.2⟩)
  · exact .inr (.inr q)
  · exact q.elim
def rSlG (K : PySem.W.Frag) : V → Option Int → Option Int → Hp → VK → Prop := fun x lo hi H Q => rSlL K x lo hi H Q ∨ rSlTG x lo hi H Q
theorem sl_any : SlR X (rSlG X.K) := sl_list.or sl_tupG
inductive QJ (X : Cx) : List Expr → List TE → Prop where
  | nil : QJ X [] []
  | cons {e : Expr} {t : TE} {es : List Expr} {ts : List TE} : QE X e t → QJ X es ts → QJ X (e :: es) (t :: ts)
end
end L2
namespace L2
open PySem PySem.Spec PyProof.Rows
theorem Fun.okN {P : Program} {w : World} {K : PySem.W.Frag} {mg : Str → Option Value} {base : Heap} {CX : CXT} {x qual : Str} {st : Stmt} {f : Addr} {fd : FuncData} {N ps : List Str} {k : Nat} {sp : Sp} (F : Fun K x qual st f fd) (S : FnScope N ps (defScope st)) (len : ∀ vs H Q E, sp vs H Q E → vs.length = ps.length)
    (hbody : ∀ (cdv : Value) (A : Around) (outer : List Env) (s : Shared) (H : Hp) (vs : List V) (Q : VK) (E : XK), Room k (A.deeper (envOfC qual (defScope st) s.heap.objs.size f cdv)) → sp vs H Q E →
      ∃ t, PSs (cxOf CX P w K mg base N qual (defScope st) f cdv A outer s H E).nox (defBody st) t ∧ t { nx := fun _ H' => Q .non H', rt := Q } (start N vs) H) : FnOk P w K mg base CX (k + 1) f fd ps sp := by
  obtain ⟨oc, od, kV, doc, pm, an, cdv, ct, osl, rfl, lk, hcd⟩ := F.ex
  refine fn_of lk hcd S len fun A outer s H vs Q E hr hsp => ?_
  obtain ⟨t, h, q⟩ := hbody cdv A outer s H vs Q E hr hsp
  exact ⟨t, h.nox, q⟩
end L2
namespace L2
open PySem PySem.Spec PyProof.Rows
section
variable {X : Cx}
def rSlS : V → Option Int → Option Int → Hp → VK → Prop := fun x lo hi H Q => ∃ z, x = .str z ∧ z.length ≤ sizeLine ∧ Q (.str (Txt.slice z lo hi)) H
theorem sl_str : SlR X rSlS := by
  intro pins s σ H x v vl vu lo hi sl Q I rx hs pl pu h
  obtain ⟨z, rfl, hz, q⟩ := h
  obtain ⟨t, rfl⟩ := (show ∃ t, v = Value.str z t from rx)
  refine ⟨"str", _, F.slot_str_getitem.lookup, typeIs_str _ _ _, ?_⟩
  have fin : ∀ (l u : Option (Int × Tok)), l.map (·.1) = lo → u.map (·.1) = hi → s.heap.IsSlice sl l u none → wpAny (model X.prog X.w) X.A (getItem (.str z t) (.ref sl)) (EP X pins σ Q) X.xe s := fun l u e1 e2 hs' => by
    subst e1 e2
    refine wpAny_getItem_str_slice (l := l) (u := u) (st := none) hs' rfl (post_val_or_str ⟨Nat.le_trans (Txt.slice_le z _ _) hz, fun t' k => ⟨.str _, H, I.tok k, ⟨_, rfl⟩, q⟩⟩)
  obtain ⟨os, hos, hcs, hds⟩ := hs
  cases pl with
  | none => cases pu with
    | none => exact fin none none rfl rfl ⟨os, hos, hcs, hds⟩
    | int j tj => exact fin none (some (j, tj)) rfl rfl ⟨os, hos, hcs, hds⟩
  | int i ti => cases pu with
    | none => exact fin (some (i, ti)) none rfl rfl ⟨os, hos, hcs, hds⟩
    | int j tj => exact fin (some (i, ti)) (some (j, tj)) rfl rfl ⟨os, hos, hcs, hds⟩
def rSlA (K : PySem.W.Frag) : V → Option Int → Option Int → Hp → VK → Prop := fun x lo hi H Q => rSlG K x lo hi H Q ∨ rSlS x lo hi H Q
theorem sl_all : SlR X (rSlA X.K) := sl_any.or sl_str
def plainP : V → Bool
  | .int _ => true
  | .str _ => true
  | _ => false
theorem eqAt_plain {A : Around} {s : Shared} {x y : V} {u v : Value} (rx : RelV x u) (ry : RelV y v) (hx : plainP x = true) (hy : plainP y = true) : PySem.SeqAt.EqAt A s u v (decide (x = y)) := by
  cases x <;> first | cases hx | skip
  all_goals (cases y <;> first | cases hy | skip)
  · obtain ⟨t, rfl⟩ := rx; obtain ⟨t', rfl⟩ := ry
    have e := PySem.SeqAt.EqAt.int_int (A := A) (s := s) ‹Int› t ‹Int› t'
    rename_i i j
    have e2 : decide (V.int i = V.int j) = (i == j) := by rw [decV (f := V.int) fun _ _ e => V.int.inj e]; rfl
    rw [e2]; exact PySem.SeqAt.EqAt.int_int i t j t'
  · obtain ⟨t, rfl⟩ := rx; obtain ⟨t', rfl⟩ := ry
    exact PySem.SeqAt.EqAt.int_str _ _ _ _
  · obtain ⟨t, rfl⟩ := rx; obtain ⟨t', rfl⟩ := ry
    exact PySem.SeqAt.EqAt.str_int _ _ _ _
  · obtain ⟨t, rfl⟩ := rx; obtain ⟨t', rfl⟩ := ry
    rename_i i j
    have e2 : decide (V.str i = V.str j) = (i == j) := by
      rw [decV (f := V.str) fun _ _ e => V.str.inj e]
      by_cases h : i = j
      · rw [h]; simp
      · rw [decide_eq_false h]; exact (beq_eq_false_iff_ne.mpr h).symm
    rw [e2]; exact PySem.SeqAt.EqAt.str_str i t j t'
theorem eq_by_get {xs ys : List V} : decide (xs = ys) = ((List.range (min xs.length ys.length)).all (fun j => decide (xs[j]? = ys[j]?)) && xs.length == ys.length) := by
  by_cases h : xs = ys
  · subst h; simp
  · rw [decide_eq_false h]
    by_cases hl : xs.length = ys.length
    · rw [hl, Nat.min_self, beq_self_eq_true, Bool.and_true]
      symm
      rw [List.all_eq_false]
      apply Classical.byContradiction
      intro hn
      apply h
      apply List.ext_getElem? fun i => ?_
      by_cases hi : i < ys.length
      · apply Classical.byContradiction
        intro hne
        exact hn ⟨i, List.mem_range.mpr hi, by simpa using hne⟩
      · rw [List.getElem?_eq_none (by omega), List.getElem?_eq_none (by omega)]
    · have : (xs.length == ys.length) = false := by simpa using hl
      rw [this, Bool.and_false]
def rEqT (K : PySem.W.Frag) : R2 := fun x y H Q => ∃ a b xs ys, x = .ref a ∧ y = .ref b ∧ SqT K H a xs ∧ SqT K H b ys ∧ xs.all plainP = true ∧ ys.all plainP = true ∧ Q (.bl (decide (xs = ys))) H
theorem op_eqT (hu : X.A.units < cLine) : OpR X (compareOp .Eq) (rEqT X.K) := by
  intro pins s σ H x y v u Q I rx ry h
  obtain ⟨a, b, xs, ys, rfl, rfl, ha, hb, px, py, q⟩ := h
  cases rx
  cases ry
  obtain ⟨its, r1, p1, _⟩ := I.tuple ha
  obtain ⟨its2, r2, p2, _⟩ := I.tuple hb
  have l1 := r1.length
  have l2 := r2.length
  refine PySem.SeqAt.eq_tupleAt (e := fun j => decide (xs[j]? = ys[j]?)) p1 p2 hu (fun j h1 h2 => ?_) ?_
  · have h1 : j < its.length := by simpa using h1
    have h2 : j < its2.length := by simpa using h2
    have e1 : xs[j]? = some xs[j] := List.getElem?_eq_getElem (by omega)
    have e2 : ys[j]? = some ys[j] := List.getElem?_eq_getElem (by omega)
    obtain ⟨u1, g1, ru1⟩ := r1.get e1
    obtain ⟨u2, g2, ru2⟩ := r2.get e2
    have g1' : its.toArray[j] = u1 := by
      rw [List.getElem?_eq_getElem h1] at g1; simpa using Option.some.inj g1
    have g2' : its2.toArray[j] = u2 := by
      rw [List.getElem?_eq_getElem h2] at g2; simpa using Option.some.inj g2
    rw [g1', g2', e1, e2]
    have : decide (some xs[j] = some ys[j]) = decide (xs[j] = ys[j]) := by simp
    rw [this]
    exact eqAt_plain ru1 ru2 (List.all_eq_true.mp px _ (List.getElem_mem _)) (List.all_eq_true.mp py _ (List.getElem_mem _))
  · have e := eq_by_get (xs := xs) (ys := ys)
    rw [l1, l2] at e
    simp only [List.size_toArray]
    rw [← e]
    exact ⟨.bl _, H, I, rfl, q⟩
end
end L2
namespace HT
open PySem PyProof.Rows
section
variable {prog : Program} {w : World} {A : Around} {E : Value → Shared → Prop} {s : Shared}
structure ZipAt (h : Heap) (z TI TO i1 i2 t1 t2 : Addr) (xs ys : Array Value) (f0 : Value) (k : Nat) : Prop where
  z : IsZip h z TI TO f0
  ti : IsPair h TI (.ref i1) (.ref i2)
  to : ∃ a b, IsPair h TO a b
  j1 : h.IsTupleIter i1 t1 k
  j2 : h.IsTupleIter i2 t2 k
end
end HT
namespace HT
open PySem PyProof.Rows
section
variable {prog : Program} {w : World} {A : Around} {E : Value → Shared → Prop} {s : Shared}
end
end HT
namespace L2
open PySem PySem.Spec PyProof.Rows
section
variable {X : Cx} {pins : List (Addr × Obj)} {σ : St} {H : Hp} {s : Shared} {h' : Heap}
end
section
variable {X : Cx} {pins : List (Addr × Obj)} {σ : St} {H H1 : Hp} {s s0 : Shared} {a : Addr} {o : HO}
end
end L2
namespace L2
open PySem PySem.Spec PyProof.Rows
section
variable {X : Cx} {a b : Expr} {t : TA} {p pos ep : Pos} {elts : List Expr} {ek : Nat}
end
end L2
namespace L2
open PySem PySem.Spec PyProof.Rows
section
variable {X : Cx} {a b : Expr} {t : TA} {p pos ep px py : Pos} {elts : List Expr} {ek : Nat} {x y : Str} {iter : Expr} {wi : TI} {tS : TS}
end
end L2
namespace L2
open PySem PySem.Spec PyProof.Rows
section
variable {X : Cx} {CX : CXT} {k : Nat} {f C : Addr} {fd : FuncData} {ps : List Str} {sp : Sp} {E : St → XK} {x m fl : Str} {p pos apos pos' : Pos} {e o value : Expr} {es : List Expr} {ta tv to : TE} {t : TA}
end
end L2
namespace L2
open PySem PySem.Spec PyProof.Rows
mutual
inductive DatV (K : PySem.W.Frag) (H : Hp) : V → PyData → Prop
  | non : DatV K H .non .none
  | bl (b) : DatV K H (.bl b) (.bool b)
  | int (i) : DatV K H (.int i) (.int i)
  | str (z) : DatV K H (.str z) (.str z)
  | lst {a xs ds} : SqL K H a xs → DatVs K H xs ds → DatV K H (.ref a) (.list ds)
  | tup {a xs ds} : SqT K H a xs → DatVs K H xs ds → DatV K H (.ref a) (.tuple ds)
inductive DatVs (K : PySem.W.Frag) (H : Hp) : List V → List PyData → Prop
  | nil : DatVs K H [] []
  | cons {x xs d ds} : DatV K H x d → DatVs K H xs ds → DatVs K H (x :: xs) (d :: ds)
end
section
variable {X : Cx}
mutual
theorem datV_reads {pins : List (Addr × Obj)} {σ : St} {H : Hp} {s : Shared} (I : Inv X pins σ H s) : ∀ {x : V} {d : PyData}, DatV X.K H x d → ∀ {v : Value}, RelV x v → ∃ as, Reads s.heap v d as
  | _, _, .non, _, r => by cases r; exact ⟨_, .none⟩
  | _, _, .bl b, _, r => by cases r; exact ⟨_, .bool b⟩
  | _, _, .int i, _, r => by obtain ⟨t, rfl⟩ := r; exact ⟨_, .int i t⟩
  | _, _, .str z, _, r => by obtain ⟨t, rfl⟩ := r; exact ⟨_, .str z t⟩
  | _, _, .lst h hs, _, r => by
    cases r
    obtain ⟨its, r1, ⟨o, n, h1, h2, _, h3⟩, _⟩ := I.list h
    obtain ⟨as, ra⟩ := datVs_reads I hs r1
    exact ⟨_, .list h1 h2 h3 (by simpa using ra)⟩
  | _, _, .tup h hs, _, r => by
    cases r
    obtain ⟨its, r1, ⟨o, h1, h2, n, h3⟩, _⟩ := I.tuple h
    obtain ⟨as, ra⟩ := datVs_reads I hs r1
    exact ⟨_, .tuple h1 h2 h3 (by simpa using ra)⟩
theorem datVs_reads {pins : List (Addr × Obj)} {σ : St} {H : Hp} {s : Shared} (I : Inv X pins σ H s) : ∀ {xs : List V} {ds : List PyData}, DatVs X.K H xs ds → ∀ {vs : List Value}, Vals xs vs → ∃ as, ReadsAll s.heap vs ds as
  | _, _, .nil, _, r => by cases r; exact ⟨_, .nil⟩
  | _, _, .cons h hs, _, r => by
    cases r with
    | cons r1 r2 =>
      obtain ⟨as, a⟩ := datV_reads I h r1
      obtain ⟨bs, b⟩ := datVs_reads I hs r2
      exact ⟨_, .cons a b⟩
end
def rEqD (K : PySem.W.Frag) : R2 := fun x y H Q => ∃ d e, DatV K H x d ∧ DatV K H y e ∧ d.canLay0 = true ∧ e.canLay0 = true ∧ d.depth ≤ 150 ∧ Q (.bl (d.eqv e)) H
def rNeD (K : PySem.W.Frag) : R2 := fun x y H Q => ∃ d e, DatV K H x d ∧ DatV K H y e ∧ d.canLay0 = true ∧ e.canLay0 = true ∧ d.depth ≤ 150 ∧ Q (.bl (!d.eqv e)) H
theorem op_eqD (hu : X.A.units + 150 < cLine) : OpR X (compareOp .Eq) (rEqD X.K) := by
  intro pins s σ H x y v u Q I rx ry h
  obtain ⟨d, e, hd, he, cd, ce, dp, q⟩ := h
  obtain ⟨as, ra⟩ := datV_reads I hd rx
  obtain ⟨bs, rb⟩ := datV_reads I he ry
  exact PySem.SeqAt.compareEq_reads ra rb cd ce (by have := Nat.min_le_left d.depth e.depth; omega) ⟨.bl _, H, I, rfl, q⟩
theorem op_neD (hu : X.A.units + 150 < cLine) : OpR X (compareOp .NotEq) (rNeD X.K) := by
  intro pins s σ H x y v u Q I rx ry h
  obtain ⟨d, e, hd, he, cd, ce, dp, q⟩ := h
  obtain ⟨as, ra⟩ := datV_reads I hd rx
  obtain ⟨bs, rb⟩ := datV_reads I he ry
  exact PySem.SeqAt.compareNe_reads ra rb cd ce (by have := Nat.min_le_left d.depth e.depth; omega) ⟨.bl _, H, I, rfl, q⟩
theorem Room.units150 {k : Nat} {A : Around} (r : Room k A) : A.units + 150 < cLine := by have := r.un; omega
def mNeB (K : PySem.W.Frag) : R2 := fun x y H Q => match x, y with
  | .ref a, y => rNeD K (.ref a) y H Q
  | x, .ref b => rNeD K x (.ref b) H Q
  | x, y => mNe x y H Q
theorem oNeB (hu : X.A.units + 150 < cLine) : OpR X (compareOp .NotEq) (mNeB X.K) := ((op_neD hu).or oNe).imp fun x y H Q q => by
  unfold mNeB at q
  split at q
  · exact .inl q
  · exact .inl q
  · exact .inr q
variable {o : Expr} {to : TE} {name : Str} {apos cpos : Pos} {T id : String} {rm : V → List V → Hp → VK → Prop}
theorem x_bm0 (pa : PlainAttrs T) (slot : Slot T name id) (hty : typeOf (.builtin id) = pure (.type "method_descriptor")) (hm : MtR X id rm) (ho : QE X o to)
    (hbase : attributeBase o name X.env (eval o X.env) = eval o X.env := by rfl) (hline : (apos.endLine == cpos.line) = true := by rfl) : QE X (.Call (.Attribute o name apos) [] [] cpos) (tBM0 X.K T rm to) := ⟨pe_bm0 pa slot hty hm ho.out hbase hline⟩
end
end L2
namespace L2
open PySem PySem.Spec PyProof.Rows
theorem line_ge {n : Nat} (h : n ≤ 1000000) : n ≤ sizeLine := by rw [sizeLine_eq]; omega
theorem pow2z (k : Nat) : ((2 ^ k : Nat) : Int) = (2 : Int) ^ k := by simp
theorem pow2_pos (k : Nat) : (0 : Int) < 2 ^ k := by have := Nat.two_pow_pos k; rw [← pow2z]; omega
theorem pow2_60 {k : Nat} (h : k ≤ 60) : (2 : Int) ^ k ≤ 2 ^ 60 := by
  have b : (2:Nat) ^ k ≤ 2 ^ 60 := Nat.pow_le_pow_right (by decide) h
  rw [← pow2z k]; omega
theorem cutV_ints (ns : List Int) (lo hi : Option Int) : ∃ zs : List Int, cutV (ns.map V.int) lo hi = zs.map V.int ∧ zs.length ≤ ns.length := by
  refine ⟨(ns.drop (HT.sIx ns.length 0 lo)).take (HT.sIx ns.length ns.length hi - HT.sIx ns.length 0 lo), ?_, ?_⟩
  · unfold cutV
    rw [List.length_map, List.map_take, List.map_drop]
  · rw [List.length_take, List.length_drop]; omega
theorem atI_ex {α : Type} {xs : List α} {i : Int} (h0 : 0 ≤ i) (h1 : i < xs.length) : ∃ c, atI xs i = some c := by
  unfold atI ixN
  rw [if_pos h0, if_pos h1]
  have : i.toNat < xs.length := by omega
  exact ⟨xs[i.toNat], by show xs[i.toNat]? = _; rw [List.getElem?_eq_getElem this]⟩
theorem xor_zero {x y : Nat} (h : x ^^^ y = 0) : x = y := by
  have h2 : x ^^^ y ^^^ y = 0 ^^^ y := by rw [h]
  rwa [Nat.xor_assoc, Nat.xor_self, Nat.xor_zero, Nat.zero_xor] at h2
theorem natXor_add (x y : Nat) : x ||| y = (x &&& y) + (x ^^^ y) := by
  have h : ∀ n, ∀ x y : Nat, x < 2 ^ n → y < 2 ^ n → x ||| y = (x &&& y) + (x ^^^ y) := by
    intro n
    induction n with
    | zero => intro x y hx hy; have : x = 0 := by simpa using hx
              have : y = 0 := by simpa using hy
              subst_vars; rfl
    | succ n ih =>
      intro x y hx hy
      have i := ih (x / 2) (y / 2) (by omega) (by omega)
      rw [← Nat.div_add_mod (x ||| y) 2, ← Nat.div_add_mod (x &&& y) 2, ← Nat.div_add_mod (x ^^^ y) 2]
      rw [Nat.or_div_two, Nat.and_div_two, Nat.xor_div_two, i]
      have hm : (x ||| y) % 2 = (x &&& y) % 2 + (x ^^^ y) % 2 := by
        have a := @Nat.or_mod_two_pow x y 1
        have b := @Nat.and_mod_two_pow x y 1
        have c := @Nat.xor_mod_two_pow x y 1
        rw [Nat.pow_one] at a b c
        rw [a, b, c]
        rcases Nat.mod_two_eq_zero_or_one x with h | h <;> rcases Nat.mod_two_eq_zero_or_one y with h' | h' <;> rw [h, h'] <;> rfl
      omega
  have h2 : max x y < 2 ^ (max x y) := Nat.lt_two_pow_self
  exact h (max x y) x y (by omega) (by omega)
theorem bitXor_nat (x y : Nat) : Builtin.bitXor x y = ((x ^^^ y : Nat) : Int) := by
  unfold Builtin.bitXor Builtin.bitOr
  have e1 : Builtin.bitAnd x y = ((x &&& y : Nat) : Int) := by
    unfold Builtin.bitAnd
    rw [decide_eq_true (by omega : (0:Int) ≤ x), decide_eq_true (by omega : (0:Int) ≤ y)]; rfl
  have n (z : Nat) : Builtin.bitNot z < 0 := by unfold Builtin.bitNot; omega
  have nn (z : Nat) : (Builtin.bitNot (Builtin.bitNot z)).toNat = z := by unfold Builtin.bitNot; omega
  have e2 : Builtin.bitAnd (Builtin.bitNot x) (Builtin.bitNot y) = Builtin.bitNot ((x ||| y : Nat) : Int) := by
    unfold Builtin.bitAnd
    rw [decide_eq_false (by have := n x; omega : ¬ 0 ≤ Builtin.bitNot x), decide_eq_false (by have := n y; omega : ¬ 0 ≤ Builtin.bitNot y)]
    show Builtin.bitNot (((Builtin.bitNot (Builtin.bitNot x)).toNat ||| (Builtin.bitNot (Builtin.bitNot y)).toNat : Nat) : Int) = _
    rw [nn, nn]
  rw [e1, e2, natXor_add]
  unfold Builtin.bitNot
  omega
end L2
namespace L2
open PySem PySem.Spec PyProof.Rows
section
variable {X : Cx}
theorem Room.units1 {k : Nat} {A : Around} (r : Room k A) : A.units + 1 < cLine := by have := r.un; omega
def rIxD : R2 := fun x y H Q => ∃ a v, x = .ref a ∧ DGet H a y (some v) ∧ Q v H
theorem ix_dict (hu : X.A.units + 1 < cLine) : IxR X rIxD := by
  intro value slice pins s σ H x y v u Q I rx ry h hs
  obtain ⟨a, w0, rfl, g, q⟩ := h
  obtain rfl : v = Value.ref a := rx
  have hT := dict_typeIs I g
  have h2 : wpAny (model X.prog X.w) X.A (getItem (.ref a) u) (EP X pins σ Q) X.xe s := d_getItem hu I g ry fun w' s3 I3 rw' => ⟨w0, H, I3, rw', q⟩
  unfold subscriptTail
  refine wpAny_bind ?_
  rw [getitemInPython_of_ne hT.not_modules]
  refine wpAny_bind (wpAny_specialOf hT PySem.F.slot_dict_getitem.lookup ?_)
  have fin : wpAny (model X.prog X.w) X.A (subscripted slice false (.ref a) u) (fun r s₃ => wpAny (model X.prog X.w) X.A (letTemporaryGo value (.ref a) r >>= fun _ => pure r) (EP X pins σ Q) X.xe s₃) X.xe s := by
    rw [hs]
    exact wpAny_operating (wpAny_mono h2 (fun r s₃ h₃ => wpAny_bind (wpAny_letTemporaryGo (wpAny_pure h₃))) fun _ _ x => x)
  first
    | exact wpAny_pure (wpAny_bind fin)
    | exact wpAny_bind (wpAny_pure (wpAny_bind fin))
    | exact wpAny_bind fin
def rIxA (K : PySem.W.Frag) : R2 := fun x y H Q => rIx K x y H Q ∨ rIxD x y H Q
theorem ix_any (hu : X.A.units + 1 < cLine) : IxR X (rIxA X.K) := ix_seq.or (ix_dict hu)
def rSetD : V → V → V → Hp → (Hp → Prop) → Prop := fun o i v H Q => ∃ a H', o = .ref a ∧ DPut H a i v H' ∧ Q H'
theorem set_dict (hu : X.A.units + 1 < cLine) : PSet X rSetD := by
  intro pins s σ H o i v ov iv u Q I ro ri rv h
  obtain ⟨a, H', rfl, g, q⟩ := h
  obtain rfl : ov = Value.ref a := ro
  exact d_setItem hu I g ri rv fun s4 I4 => ⟨H', I4, q⟩
def rSetA : V → V → V → Hp → (Hp → Prop) → Prop := fun o i v H Q => rSetL o i v H Q ∨ rSetD o i v H Q
theorem set_any (hu : X.A.units + 1 < cLine) : PSet X rSetA := by
  intro pins s σ H o i v ov iv u Q I ro ri rv h
  rcases h with h | h
  · exact set_list pins s σ H o i v ov iv u Q I ro ri rv h
  · exact set_dict hu pins s σ H o i v ov iv u Q I ro ri rv h
variable {o e : Expr} {to te : TE} {p pos : Pos}
theorem x_setixA {ti : TE} {i : Expr} (hu : X.A.units + 1 < cLine) (ho : QE X o to) (hi : QE X i ti) (he : QE X e te) (hs : swapsWithSole [.Subscript o i p] e pos.line X.env = pure false := by rfl) (hw : swappedStores [.Subscript o i p] e X.env = pure none := by rfl) (ha : ∀ v, assign (.Subscript o i p) X.env v = (do let ov ← holding [v] (eval o X.env); let iv ← holding [v, ov] (eval i X.env); standAt p; holding [v, ov, iv] (setItem ov iv v); release [v, ov, iv] []) := by intro _; rfl) : QS X (.Assign [.Subscript o i p] e pos) (tAsg te (gSub to ti rSetA)) := ⟨ps_asg he.out (pg_sub ho.out hi.out (set_any hu) ha) hs hw⟩
def tDNewA : TE := fun σ H Q => tDNewK σ H Q ∨ tDNewT σ H Q
theorem x_dnewA : QE X (.Dict [] [] pos) tDNewA := ⟨fun pins s σ H Q I h => h.elim (pe_dnewK pins s σ H Q I) (pe_dnewT pins s σ H Q I)⟩
theorem call_lenT : CallR X (.builtin "len") (fun xs H Q => ∃ p kvs, xs = [.ref p] ∧ H p = some (.dT kvs) ∧ Q (.int kvs.length) H) := by
  intro pins s σ H xs us Q I r h
  obtain ⟨a, kvs, rfl, e, q⟩ := h
  obtain ⟨u, rfl, r1⟩ := vals1 r
  cases r1
  obtain ⟨z, hd, ps, rel, dd⟩ := dt_of I.hok e
  have hl : ps.length = kvs.length := (Paired.length rel).symm
  have hT : s.TypeIs (.ref a) "dict" := dd.typeIs
  obtain ⟨o, es, ep, ho, hc, hdat, he, his, hn⟩ := dd
  have hsz : es.size = kvs.length := by rw [← hl]; have := congrArg List.length he; simpa using this
  have M : MeetsIn X.prog X.w (Builtin.«dict.__len__» ⟨[.ref a], []⟩) (fun _ R s => s.heap.get? a = some o ∧ R (.ok (.ret (.int kvs.length s.toks))) { s with toks := s.toks + 1 }) :=
    .of_wp fun A R s ⟨ho, h⟩ => by
      show wpAny _ _ (dictSize a >>= _) _ _ s
      unfold dictSize
      refine wpAny_bind (wpAny_bind (wpAny_dictEntries ho hdat (wpAny_pure ?_)))
      show wpAny _ _ (Builtin.Dict.pendingCount a >>= _) _ _ s
      refine wpAny_bind (wpAny_pendingCount_other hd ?_)
      refine wpAny_ret_mkInt ?_
      rw [Nat.add_zero, hsz]; exact h
  refine Calls.call_function_entry kind_len plain_len entry_len (args_len1 _) ?_
  unfold Builtin.«len»
  refine wpAny_bind (m := oneArg "len" _) (wpAny_pure ?_)
  refine wpAny_bind (m := callSpecial? (.ref a) (Str.ofString "__len__")) (wpAny_callSpecial?_slot (name := Str.ofString "__len__") hT F.slot_dict_len
    (call_meetsIn F.slot_dict_len hT F.entry_dict_len (F.args_dict_len_1 _) M ⟨ho, ?_⟩))
  show wpAny _ _ _ _ _ { s with toks := s.toks + 1 }
  refine wpAny_bind (wpAny_holding (wpAny_pure ?_))
  refine wpAny_bind (wpAny_letGo ?_)
  have zz : kvs.length ≤ sizeLine := z
  rw [sizeLine_eq] at zz
  show wpAny _ _ (if ((kvs.length : Nat) : Int) < 0 then _ else _) _ _ _
  rw [if_neg (by omega)]
  show wpAny _ _ (if ((kvs.length : Nat) : Int) ≥ 2 ^ 63 then _ else _) _ _ _
  rw [if_neg (by omega)]
  exact wpAny_bind (wpAny_mkInt (wpAny_pure ⟨_, rfl, ⟨.int kvs.length, H, I.tok _, ⟨_, rfl⟩, q⟩⟩))
def kLenA (K : PySem.W.Frag) : List V → Hp → VK → Prop := fun xs H Q => kLen K xs H Q ∨ ∃ p kvs, xs = [.ref p] ∧ H p = some (.dT kvs) ∧ Q (.int kvs.length) H
theorem cLenA : CallR X (.builtin "len") (kLenA X.K) := cLen.or call_lenT
end
end L2
namespace L2
open PySem PySem.Spec PyProof.Rows
theorem plain_is {h : Heap} {a : Addr} {its : Array Value} (p : PlainL h a its) : h.IsList a its := let ⟨o, n, e, c, _, d⟩ := p; ⟨o, e, c, n, d⟩
structure ZipAtL (h : Heap) (z TI TO i1 i2 t1 t2 : Addr) (k : Nat) : Prop where
  z : IsZip h z TI TO .none
  ti : IsPair h TI (.ref i1) (.ref i2)
  to : ∃ a b, IsPair h TO a b
  j1 : h.IsListIter i1 t1 k
  j2 : h.IsListIter i2 t2 k
section
variable {X : Cx} {a b : Expr} {t : TA} {p pos ep : Pos} {elts : List Expr} {ek : Nat}
end
end L2
namespace L2
open PySem PySem.Spec PyProof.Rows
structure CloT where
  qual : Str
  body : FuncBody
  scope : Scope
  ps : List Str
  ys : List Str
def CloFd (t : CloT) (cs : List Addr) (c : Addr) (fd : FuncData) : Prop :=
  fd.qualname = t.qual ∧ fd.body = t.body ∧ fd.scope = t.scope ∧ fd.globals = mainGlobals ∧ fd.closure = t.ys.zip cs ∧ fd.code = .ref c ∧ fd.builtins = builtinsNs ∧
    (∀ us : List Value, us.length = t.ps.length → bindArgs fd ⟨us, []⟩ = pure (t.ps.zip us)) ∧ cs.Nodup ∧ cs.length = t.ys.length
def cloO (f : Addr) (t : CloT) (cs : List Addr) (c : Addr) : HO := .ext fun h => ∃ od fd sl, h.get? f = some ⟨.type "function", od, .func fd, sl⟩ ∧ CloFd t cs c fd
def codeO (c : Addr) (qual : Str) : HO := .ext fun h => ∃ o vs tk, h.get? c = some o ∧ o.data = .fields vs ∧ vs[1]? = some (.str qual tk)
def cellO (c : Addr) (v : V) : HO := .ext fun h => ∃ u o, RelV v u ∧ h.get? c = some o ∧ o.data = .cell (some u)
abbrev CellsAt (H : Hp) : List Addr → List V → Prop := Paired fun c v => H c = some (cellO c v)
structure CloAt (H : Hp) (f : Addr) (t : CloT) (cs : List Addr) (cvs : List V) : Prop where
  ex : ∃ c, H f = some (cloO f t cs c) ∧ H c = some (codeO c t.qual)
  cells : CellsAt H cs cvs
theorem CellsAt.mem {H : Hp} {cs : List Addr} {cvs : List V} (h : CellsAt H cs cvs) : ∀ c ∈ cs, ∃ v, H c = some (cellO c v) := by
  induction h with
  | nil => intro c hc; cases hc
  | cons r t ih =>
    intro c hc
    rcases List.mem_cons.mp hc with rfl | hc
    · exact ⟨_, r⟩
    · exact ih c hc
theorem CellsAt.get {H : Hp} {cs : List Addr} {cvs : List V} (h : CellsAt H cs cvs) : ∀ {i : Nat} {v : V}, cvs[i]? = some v → ∃ c, cs[i]? = some c ∧ H c = some (cellO c v) := by
  induction h with
  | nil => intro i v e; cases e
  | @cons c w cs ws r t ih =>
    intro i v e
    cases i with
    | zero => cases e; exact ⟨c, rfl, r⟩
    | succ i => exact ih e
def hideC (cs : List Addr) (H : Hp) : Hp := fun b => if b ∈ cs then none else H b
def backC (cs : List Addr) (H H' : Hp) : Hp := fun b => if b ∈ cs then H b else H' b
theorem hideC_in {cs : List Addr} {H : Hp} {b : Addr} (h : b ∈ cs) : hideC cs H b = none := if_pos h
theorem hideC_out {cs : List Addr} {H : Hp} {b : Addr} (h : b ∉ cs) : hideC cs H b = H b := if_neg h
theorem backC_in {cs : List Addr} {H H' : Hp} {b : Addr} (h : b ∈ cs) : backC cs H H' b = H b := if_pos h
theorem backC_out {cs : List Addr} {H H' : Hp} {b : Addr} (h : b ∉ cs) : backC cs H H' b = H' b := if_neg h
theorem CellsAt.notin {H : Hp} {cs : List Addr} {cvs : List V} (h : CellsAt H cs cvs) {b : Addr} {o : HO} (e : H b = some o) (hn : ∀ φ, o ≠ .ext φ) : b ∉ cs := fun hb => by
  obtain ⟨v, ev⟩ := h.mem b hb
  rw [e] at ev
  exact hn _ (Option.some.inj ev)
theorem CellsAt.hide {H : Hp} {cs : List Addr} {cvs : List V} (h : CellsAt H cs cvs) {b : Addr} {o : HO} (e : H b = some o) (hn : ∀ φ, o ≠ .ext φ) : hideC cs H b = some o := by
  rw [hideC_out (h.notin e hn)]; exact e
theorem Same.hide {H H' : Hp} (cs : List Addr) (s : Same (hideC cs H) H') : Same H (backC cs H H') := fun b o e => by
  by_cases hb : b ∈ cs
  · rw [backC_in hb]; exact e
  · rw [backC_out hb]; exact s _ _ (by rw [hideC_out hb]; exact e)
section
variable {P : Program} {w : World} {fs : List Addr} {H H' : Hp} {h h' : Heap} {cs : List Addr} {cvs : List V}
theorem back_ok (hc : CellsAt H cs cvs) (hfs : ∀ b ∈ fs, H b = none) (ok : HOk P w H h) (u : Un fs [] (hideC cs H) H' h h') (ok' : HOk P w H' h') : Un fs [] H (backC cs H H') h h' ∧ HOk P w (backC cs H H') h' := by
  have obj : ∀ c ∈ cs, ∃ v o, H c = some (cellO c v) ∧ h.get? c = some o ∧ h'.get? c = some o ∧ H' c = none := fun c hm => by
    obtain ⟨v, ev⟩ := hc.mem c hm
    obtain ⟨_, ⟨o, eo⟩, _⟩ := (show ObjOk P w H h c (cellO c v) from ok c _ ev)
    refine ⟨v, o, ev, eo, u.keep c o eo (hideC_in hm) (fun z => ?_) (by simp), u.free c o eo (hideC_in hm) (by simp)⟩
    rw [hfs c z] at ev; cases ev
  have nin : ∀ b, H b = none → b ∉ cs := fun b e hb => by
    obtain ⟨v, ev⟩ := hc.mem b hb
    rw [e] at ev; cases ev
  have nin' : ∀ b o, H' b = some o → b ∉ cs := fun b o e hb => by
    obtain ⟨_, _, _, _, _, z⟩ := obj b hb
    rw [e] at z; cases z
  refine ⟨⟨fun b o e n hb hx => u.keep b o e (by rw [hideC_out (nin b n)]; exact n) hb hx, fun b o e n hb hx => u.slot b o e (by rw [hideC_out (nin b n)]; exact n) hb hx,
    fun b o e n hx => by rw [backC_out (nin b n)]; exact u.free b o e (by rw [hideC_out (nin b n)]; exact n) hx, u.there, fun b xs e => ?_, fun b o v e => ?_, fun b ps e => ?_⟩, fun b o e => ?_⟩
  · have hb := hc.notin e fun φ z => nomatch z
    rw [backC_out hb]; exact u.tups b xs (by rw [hideC_out hb]; exact e)
  · have hb := hc.notin e fun φ z => nomatch z
    rw [backC_out hb]; exact u.frzs b o v (by rw [hideC_out hb]; exact e)
  · have hb := hc.notin e fun φ z => nomatch z
    rw [backC_out hb]; exact u.tbls b ps (by rw [hideC_out hb]; exact e)
  · by_cases hb : b ∈ cs
    · rw [backC_in hb] at e
      obtain ⟨v, o', ev, e1, e2, _⟩ := obj b hb
      rw [e] at ev; cases ev
      obtain ⟨φ1, _, φ3⟩ := (show ObjOk P w H h b (cellO b v) from ok b _ e)
      exact ⟨φ3 h h' φ1 fun q hq => by rw [e1] at hq; cases hq; exact e2, ⟨o', e2⟩, φ3⟩
    · rw [backC_out hb] at e
      exact (ok' b o e).stay (fun c u _ q => q) (fun c q => by rw [backC_out (nin' c _ q)]; exact q) fun c xs q => by rw [backC_out (nin' c _ q)]; exact q
theorem CR.back {outer : List Env} {s s' : Shared} {Q : VK} {E : XK} {r : Result} (hc : CellsAt H cs cvs) (hfs : ∀ b ∈ frs outer, H b = none) (ok : HOk P w H s.heap)
    (h : CR (CX1 P w) outer P w (hideC cs H) s (fun v H' => Q v (backC cs H H')) (fun c a H' => E c a (backC cs H H')) r s') : CR (CX1 P w) outer P w H s Q E r s' := by
  cases r with
  | error e =>
    obtain ⟨a, C, H', rfl, F, q⟩ := h
    obtain ⟨u, k⟩ := back_ok hc hfs ok F.un F.hok
    have na : a ∉ cs := fun hb => by
      obtain ⟨v, ev⟩ := hc.mem a hb
      obtain ⟨_, ⟨o, eo⟩, _⟩ := (show ObjOk P w H s.heap a (cellO a v) from ok a _ ev)
      rw [F.new] at eo; cases eo
    obtain ⟨oe, vs, a0, T, oT, ts, t1, t2, t3, t4, t5, t6, t7, t8, t9, t10, t11⟩ := F.tr
    have nT : T ∉ cs := fun hb => by
      obtain ⟨v, ev⟩ := hc.mem T hb
      obtain ⟨_, ⟨o, eo⟩, _⟩ := (show ObjOk P w H s.heap T (cellO T v) from ok T _ ev)
      rw [t10] at eo; cases eo
    exact ⟨a, C, _, rfl, ⟨F.os, F.bare, u, k, F.new, by rw [backC_out na]; exact F.free, ⟨oe, vs, a0, T, oT, ts, t1, t2, t3, t4, t5, t6, t7, t8, t9, t10, by rw [backC_out nT]; exact t11⟩⟩, q⟩
  | ok fl =>
    cases fl with
    | ret u =>
      obtain ⟨v, H', os, bare, un, hok, rv, q⟩ := h
      obtain ⟨u', k⟩ := back_ok hc hfs ok un hok
      exact ⟨v, _, os, bare, u', k, rv, q⟩
    | next => exact False.elim h
    | brk => exact False.elim h
    | cont => exact False.elim h
end
structure CloOk (P : Program) (w : World) (K : PySem.W.Frag) (mg : Str → Option Value) (base : Heap) (k : Nat) (t : CloT) (sp : Sp) : Prop where
  run : ∀ (A : Around) (outer : List Env) (s : Shared) (H : Hp) (f : Addr) (cs : List Addr) (us : List Value) (vs cvs : List V) (Q : VK) (E : XK), Room k A → Env0 P w K mg base A outer s H → CloAt H f t cs cvs → Vals vs us → vs.length = t.ps.length →
    sp (vs ++ cvs) (hideC cs H) (fun v H' => Q v (backC cs H H')) (fun c a H' => E c a (backC cs H H')) → codeAny (model P w) A (.call (.ref f) ⟨us, []⟩) (CR (CX1 P w) outer P w H s Q E) s
structure CloScope (N ps ys : List Str) (sc : Scope) : Prop where
  kind : sc.kind = .function
  co : sc.isCoroutine = false
  gen : sc.isGenerator = false
  nd : N.Nodup
  pre : N.take ps.length = ps
  suf : N.drop (N.length - ys.length) = ys
  le : ps.length + ys.length ≤ N.length
  par : ∀ x ∈ ps, sc.names.lookup x = some .local
  nocell : ∀ x ∈ sc.names, x.2 ≠ .cell
  fr : ∀ x ∈ ys, sc.names.lookup x = some .free
  frs : ∀ y ∈ sc.names, y.2 = .free → y.1 ∈ ys
end L2
namespace L2
open PySem PySem.Spec PyProof.Rows
section
variable {P : Program} {w : World} {K : PySem.W.Frag} {mg : Str → Option Value} {base : Heap} {N ps ys : List Str} {qual : Str} {scope : Scope} {f c : Addr} {A : Around} {outer : List Env} {s : Shared} {H : Hp} {E : XK} {us : List Value} {vs cvs : List V} {cs : List Addr} {h1 : Heap} {tk : Nat}
end
section
variable {P : Program} {w : World} {K : PySem.W.Frag} {mg : Str → Option Value} {base : Heap} {k : Nat} {t : CloT} {N : List Str} {sp : Sp}
end
end L2
namespace L2
open PySem PySem.Spec PyProof.Rows
def BM (mg : Str → Option Value) (h : Heap) : Prop := ∃ bm ob, mg "__builtins__" = some (.ref bm) ∧ bm ≠ builtinsNs ∧ h.get? bm = some ob ∧ ob.cls = .type "module" ∧ ob.dict = some builtinsNs ∧ ob.data = .plain
section
variable {X : Cx} {pins : List (Addr × Obj)} {σ : St} {H : Hp} {s : Shared} {P c : Addr} {ps : Array Value} {t : CloT} {cs : List Addr} {h' : Heap} {tk : Nat} {fd : FuncData}
end
section
variable {X : Cx} {c0 P : Addr} {params : Arguments} {scope : Scope} {pos : Pos} {t : CloT} {cs : List Addr}
end
section
variable {X : Cx} {k : Nat} {E : St → XK} {x : Str} {p pos : Pos} {e : Expr} {es : List Expr} {ta : TE}
end
end L2
namespace L2
open PySem PySem.Spec PyProof.Rows
structure EndsM where
  nx : St → Hp → Prop
  rt : St → VK
abbrev TSM := EndsM → St → Hp → Prop
def SPM (X : Cx) (pins : List (Addr × Obj)) (D : EndsM) (f : Flow) (s' : Shared) : Prop :=
  match f with
  | .next => ∃ σ' H', Inv X pins σ' H' s' ∧ D.nx σ' H'
  | .ret u => ∃ v σ' H', Inv X pins σ' H' s' ∧ RelV v u ∧ D.rt σ' v H'
  | _ => False
structure QM (X : Cx) (st : Stmt) (t : TSM) : Prop where
  out : ∀ (pins : List (Addr × Obj)) (s : Shared) (σ : St) (H : Hp) (D : EndsM), Inv X pins σ H s → t D σ H → wpAny (model X.prog X.w) X.A (exec st X.env) (SPM X pins D) X.xe s
structure QMs (X : Cx) (st : List Stmt) (t : TSM) : Prop where
  out : ∀ (pins : List (Addr × Obj)) (s : Shared) (σ : St) (H : Hp) (D : EndsM), Inv X pins σ H s → t D σ H → wpAny (model X.prog X.w) X.A (execs st X.env) (SPM X pins D) X.xe s
section
variable {X : Cx} {st : Stmt} {sts l m : List Stmt} {t u : TSM} {tS : TS} {e c : Expr} {te : TE} {tc : TT} {pos : Pos}
end
end L2
namespace L2
open PySem PySem.Spec PyProof.Rows
theorem law_callT {P : Program} {w : World} {K : PySem.W.Frag} {mg mb : Str → Option Value} {CX : CXT} {k : Nat} {fa a : Addr} {fd : FuncData} {x : Str} {sp : Sp} {s₁ : Shared} {vs : List Value} {ns : List Int} {tabs : List (Addr × Addr)}
    (KX : K.In s₁.heap) (hns : s₁.heap.Ns mainGlobals mg) (hb : s₁.heap.Ns builtinsNs mb) (hbb : ∀ x : Str, x ≠ "__name__" → mb x = bootBuiltins x) (hlim : s₁.heap.NoLimit) (hg : s₁.gens = #[]) (hB : BM mg s₁.heap)
    (hT : ∀ q ∈ tabs, PySem.W.CodeHd s₁.heap q.1 q.2 ∧ s₁.heap.get? q.2 = some (PySem.W.tabObj #[])) (hKT : PySem.W.noTabs K = true)
    (ha : s₁.heap.get? a = some { cls := .type "list", data := .seq vs.toArray }) (hi : IntsAre vs ns) (hl : ns.length ≤ sizeLine) (hr : Room k callerA)
    (F : ∀ base : Heap, K.In base → base.Ns mainGlobals mg → BM mg base → (∀ q ∈ tabs, PySem.W.CodeHd base q.1 q.2) → FnOk P w K mg base CX k fa fd [x] sp) (hbind : ∀ (s : Shared) (u : Value), BindsTo s fd ⟨[u], []⟩ [(x, u)])
    (hsp : ∀ H : Hp, (∀ q ∈ tabs, H q.2 = some (.tbl #[])) → SqL K H a (ns.map V.int) → sp [.ref a] H (fun v _ => v = .bl true) fun _ _ _ => False)
    (hCX : ∀ H e s', CX [] H s₁ (fun _ _ _ => False) e s' → False) :
    codeAny (model P w) callerA (.call (.ref fa) ⟨[.ref a], []⟩) (fun r s' => r = .ok (.ret (.bool true)) ∧ OldK s₁.heap s'.heap ∧ s'.os = s₁.os ∧ AllBare s'.gens) s₁ := by
  have rv := vals_ints hi
  have lenV := hi.length
  have tabK : ∀ q ∈ tabs, K.lookup q.2 = none := fun q hq => by
    cases e : K.lookup q.2 with
    | none => rfl
    | some o =>
      have e2 := KX _ _ e
      rw [(hT q hq).2] at e2; cases e2
      have := List.all_eq_true.mp hKT _ (PySem.W.mem_of_lookupK e)
      exact absurd (show false = true from this) Bool.false_ne_true
  have tabA : ∀ q ∈ tabs, q.2 ≠ a := fun q hq e => by
    have e2 := (hT q hq).2
    rw [e, ha] at e2; cases e2
  have core : ∀ H : Hp, (∀ q ∈ tabs, H q.2 = some (.tbl #[])) → SqL K H a (ns.map V.int) → HOk P w H s₁.heap → (∀ b, H b ≠ none → (b = a ∧ ∃ o xs, H b = some (.frz o (.lst xs))) ∨ ∃ q ∈ tabs, q.2 = b) → (∀ b, H b ≠ none → K.lookup b = none) →
      codeAny (model P w) callerA (.call (.ref fa) ⟨[.ref a], []⟩) (fun r s' => r = .ok (.ret (.bool true)) ∧ OldK s₁.heap s'.heap ∧ s'.os = s₁.os ∧ AllBare s'.gens) s₁ := by
    intro H hO hS hok hA hK
    have base_of : ∀ {b : Addr} {o : Obj}, s₁.heap.get? b = some o → H b = none → (hidT s₁.heap H).get? b = some o := fun e n => hidT_get e n
    have noA : ∀ {b : Addr} {o : Obj}, s₁.heap.get? b = some o → o.cls ≠ .none → o.cls ≠ .type "list" → H b = none := fun {b o} e c1 c2 => by
      cases q : H b with
      | none => rfl
      | some u =>
        rcases hA b (by rw [q]; simp) with ⟨rfl, _⟩ | ⟨p, hp, rfl⟩
        · rw [ha] at e; cases e; exact absurd rfl c2
        · rw [(hT p hp).2] at e; cases e; exact absurd rfl c1
    have noD : ∀ {b : Addr} {o : Obj} {es : Array DictEntry} {ep : Nat}, s₁.heap.get? b = some o → o.data = .dict es ep → H b = none := fun {b o es ep} e d => by
      cases q : H b with
      | none => rfl
      | some u =>
        rcases hA b (by rw [q]; simp) with ⟨rfl, _⟩ | ⟨p, hp, rfl⟩
        · rw [ha] at e; cases e; cases d
        · rw [(hT p hp).2] at e; cases e; cases d
    have nsK : ∀ {b : Addr} {m : Str → Option Value}, s₁.heap.Ns b m → (hidT s₁.heap H).Ns b m := fun {b m} ⟨o, es, ep, e, d, r⟩ => ⟨o, es, ep, base_of e (noD e d), d, r⟩
    have hKb : K.In (hidT s₁.heap H) := fun b o e => base_of (KX b o e) (by
      cases q : H b with
      | none => rfl
      | some u => rw [hK b (by rw [q]; simp)] at e; cases e)
    have hBb : BM mg (hidT s₁.heap H) := by
      obtain ⟨bm, ob, b1, b2, b3, b4, b5, b6⟩ := hB
      exact ⟨bm, ob, b1, b2, base_of b3 (noA b3 (by rw [b4]; intro z; cases z) (by rw [b4]; intro z; exact absurd (Value.type.inj z) (by decide))), b4, b5, b6⟩
    have hCb : ∀ q ∈ tabs, PySem.W.CodeHd (hidT s₁.heap H) q.1 q.2 := fun q hq => by
      obtain ⟨o, vs, file, tf, flags, tg, inF, text, tt, e1, e2, r⟩ := (hT q hq).1
      exact ⟨o, vs, file, tf, flags, tg, inF, text, tt, base_of e1 (noA e1 (by rw [e2]; intro z; cases z) (by rw [e2]; intro z; exact absurd (Value.type.inj z) (by decide))), e2, r⟩
    have hM : Mod K mg (hidT s₁.heap H) := ⟨hKb, nsK hns, ⟨mb, nsK hb, hbb⟩, let ⟨mc, h1, h2⟩ := hlim; ⟨mc, nsK h1, h2⟩⟩
    have e0 : Env0 P w K mg (hidT s₁.heap H) callerA [] s₁ H := ⟨rfl, hM, fun b o e => of_hidT e, Nat.le_of_eq (hidT_size _ _), trivial, fun b hb => absurd (show b ∈ ([] : List Addr) from hb) (by simp), hok, .of_eq hg⟩
    refine codeAny_mono ((F _ hKb (nsK hns) hBb hCb).run callerA [] s₁ H ⟨[.ref a], []⟩ [.ref a] [.ref a] _ _ hr e0 (hbind s₁ (.ref a)) (.cons rfl .nil) (hsp H hO hS)) fun r s' h => ?_
    cases r with
    | error e => exact (hCX H e s' h).elim
    | ok fl =>
      cases fl with
      | next => exact False.elim h
      | brk => exact False.elim h
      | cont => exact False.elim h
      | ret u =>
        obtain ⟨v, H', os, bare, un, hok', r', q⟩ := h
        have q' : v = .bl true := q
        subst q'
        obtain rfl : u = Value.bool true := r'
        have all : ∀ b o, s₁.heap.get? b = some o → s'.heap.get? b = some o ∨ ∃ q ∈ tabs, q.2 = b ∧ ∃ more, s'.heap.get? b = some (PySem.W.tabObj more) := fun b o e => by
          cases q : H b with
          | none => exact .inl (un.keep b o e q (by intro z; exact absurd (show b ∈ ([] : List Addr) from z) (by simp)) (by simp))
          | some u =>
            rcases hA b (by rw [q]; simp) with ⟨rfl, ob, xs, z⟩ | ⟨p, hp, rfl⟩
            · have z2 := un.frzs b ob _ z
              obtain ⟨e1, _⟩ := hok b _ z
              obtain ⟨e2, _⟩ := hok' b _ z2
              rw [e] at e1; cases e1
              exact .inl e2
            · obtain ⟨more, z2⟩ := un.tbls p.2 _ (hO p hp)
              exact .inr ⟨p, hp, rfl, _, hok' p.2 _ z2⟩
        refine ⟨rfl, ⟨fun b o e => ?_, fun b o e => ?_⟩, os, bare⟩
        · rcases all b o e with z | ⟨p, hp, rfl, more, z⟩
          · exact .inl z
          · have e2 := (hT p hp).2
            rw [e] at e2; cases e2
            exact .inr (.inl ⟨((hT p hp).1.tab (hT p hp).2).isCodeTable, rfl, #[], more, rfl, by rw [Array.empty_append]; exact z⟩)
        · rcases all b o e with z | ⟨p, hp, rfl, more, z⟩
          · exact ⟨_, z⟩
          · exact ⟨_, z⟩
  cases hk : K.lookup a with
  | some o =>
    have e := KX a o hk
    rw [ha] at e
    cases e
    refine core (fun b => if b ∈ tabs.map (·.2) then some (.tbl #[]) else none) (fun q hq => if_pos (List.mem_map.mpr ⟨q, hq, rfl⟩)) (.inr ⟨_, vs.toArray, _, hk, rfl, rfl, rfl, by rw [List.size_toArray, lenV]; exact hl, by simpa using rv⟩) (fun b u z => ?_) (fun b z => ?_) fun b z => ?_
    · by_cases hb : b ∈ tabs.map (·.2)
      · have z' := (if_pos hb).symm.trans z
        cases z'
        obtain ⟨q, hq, rfl⟩ := List.mem_map.mp hb
        exact (hT q hq).2
      · have z' := (if_neg hb).symm.trans z
        cases z'
    · by_cases hb : b ∈ tabs.map (·.2)
      · obtain ⟨q, hq, e⟩ := List.mem_map.mp hb
        exact .inr ⟨q, hq, e⟩
      · exact absurd (if_neg hb) z
    · by_cases hb : b ∈ tabs.map (·.2)
      · obtain ⟨q, hq, rfl⟩ := List.mem_map.mp hb
        exact tabK q hq
      · exact absurd (if_neg hb) z
  | none =>
    refine core (fun b => if b = a then some (.frz { cls := .type "list", data := .seq vs.toArray } (.lst (ns.map V.int))) else if b ∈ tabs.map (·.2) then some (.tbl #[]) else none)
      (fun q hq => by show (if q.2 = a then _ else _) = _; rw [if_neg (tabA q hq), if_pos (List.mem_map.mpr ⟨q, hq, rfl⟩)]) (.inl (.inr ⟨{ cls := .type "list", data := .seq vs.toArray }, if_pos rfl⟩)) (fun b u z => ?_) (fun b z => ?_) fun b z => ?_
    · by_cases hb : b = a
      · have z' := (if_pos hb).symm.trans z
        cases z'
        subst hb
        exact ⟨ha, by rw [List.length_map]; exact hl, vs, _, rv, ha⟩
      · have z' : (if b ∈ tabs.map (·.2) then some (HO.tbl #[]) else none) = some u := (if_neg hb).symm.trans z
        by_cases hb2 : b ∈ tabs.map (·.2)
        · rw [if_pos hb2] at z'; cases z'
          obtain ⟨q, hq, rfl⟩ := List.mem_map.mp hb2
          exact (hT q hq).2
        · rw [if_neg hb2] at z'; cases z'
    · by_cases hb : b = a
      · exact .inl ⟨hb, _, _, if_pos hb⟩
      · by_cases hb2 : b ∈ tabs.map (·.2)
        · obtain ⟨q, hq, e⟩ := List.mem_map.mp hb2
          exact .inr ⟨q, hq, e⟩
        · exact absurd ((if_neg hb).trans (if_neg hb2)) z
    · by_cases hb : b = a
      · rw [hb]; exact hk
      · by_cases hb2 : b ∈ tabs.map (·.2)
        · obtain ⟨q, hq, rfl⟩ := List.mem_map.mp hb2
          exact tabK q hq
        · exact absurd ((if_neg hb).trans (if_neg hb2)) z
theorem walk_ofT {l : PySem.W.OpenLaw} {n k : Nat} {q : Program} {loose : List Str} {XP : (Str → Option Value) → Heap → Prop} {YP : World → Heap → Prop} {d : DefRec} {K : Params → PySem.W.Frag} {CX : World → CXT} {x : Str} {names : List Str}
    (hn : l.most = some n) (hn2 : n ≤ sizeLine) (hdf : d.params.defaults = []) (hr : Room k callerA)
    (hY : ∀ (w : World) (h : Heap), YP w h → (K w.params).In h)
    (hq : ∀ y ∈ names, ((PyProof.Rows.recsOf q).find? fun e => e.name == y).isSome = true)
    (F : ∀ (w : World) (mg : Str → Option Value) (fa : Addr) (h : Heap), (K w.params).In h → h.Ns mainGlobals mg → mg d.name = some (.ref fa) →
      ∃ (fd : FuncData) (tabs : List (Addr × Addr)) (sp : Sp), (∀ (s : Shared) (u : Value), BindsTo s fd ⟨[u], []⟩ [(x, u)]) ∧ PySem.W.noTabs (K w.params) = true ∧ (∀ t ∈ tabs, ∃ y ∈ names, PySem.W.tabIn (K w.params) y = some t) ∧
        (∀ base : Heap, (K w.params).In base → base.Ns mainGlobals mg → BM mg base → (∀ t ∈ tabs, PySem.W.CodeHd base t.1 t.2) → FnOk l.prog w (K w.params) mg base (CX w) k fa fd [x] sp) ∧
        ∀ (H : Hp) (a : Addr) (ns : List Int), ns.length ≤ n → (∀ t ∈ tabs, H t.2 = some (.tbl #[])) → SqL (K w.params) H a (ns.map V.int) → sp [.ref a] H (fun v _ => v = .bl true) fun _ _ _ => False)
    (hCX : ∀ (w : World) (H : Hp) (s : Shared) (e : Value) (s' : Shared), CX w [] H s (fun _ _ _ => False) e s' → False) :
    PySem.W.WalkO q loose XP YP l.row.toRowW d [] (fun f vs => PySem.call f vs) := by
  refine Att.attach_call hn hdf fun w s₀ s₁ mg mb fa o pm cd doc a vs ns G Y ho hd hcd hmg hobj hints hlen hg => ?_
  have KX := hY w _ Y
  obtain ⟨fd, tabs, sp, hb, hKT, htabs, hF, hsp⟩ := F w mg fa _ KX G.T.g hmg
  refine law_callT (tabs := tabs) KX G.T.g G.T.b G.T.builtins G.T.nolimit hg G.T.bmain (fun t ht => ?_) hKT hobj hints (Nat.le_trans hlen hn2) hr hF hb (fun H hO hS => hsp H a ns hlen hO hS) fun H e s' => hCX w H s₁ e s'
  obtain ⟨y, hy, e⟩ := htabs t ht
  obtain ⟨dd, hdd⟩ := Option.isSome_iff_exists.mp (hq y hy)
  exact PySem.W.tab_of G.T KX hdd e
end L2
namespace L2
open PySem PySem.Spec PyProof.Rows
section
variable {X : Cx}
theorem SPM.unwish {E : Value → Shared → Prop} {pins : List (Addr × Obj)} {D : EndsM} {f : Flow} {s' : Shared} (h : SPM (X.wish E) pins D f s') : SPM X pins D f s' := by
  cases f with
  | next => obtain ⟨σ', H', I, q⟩ := h; exact ⟨σ', H', I.unwish, q⟩
  | brk => exact h
  | cont => exact h
  | ret u => obtain ⟨v, σ', H', I, r, q⟩ := h; exact ⟨v, σ', H', I.unwish, r, q⟩
theorem QMs.nox {st : List Stmt} {t : TSM} (h : QMs X.nox st t) : QMs X st t := ⟨fun pins s σ H D I hw =>
  wpAny_mono (h.out pins s σ H D (I.wish _) hw) (fun _ _ q => SPM.unwish q) fun _ _ z => False.elim z⟩
theorem CloOk.mono {P : Program} {w : World} {K : PySem.W.Frag} {mg : Str → Option Value} {base : Heap} {j k : Nat} {t : CloT} {sp : Sp} (F : CloOk P w K mg base j t sp) (h : j ≤ k) : CloOk P w K mg base k t sp :=
  ⟨fun A outer s H f cs us vs cvs Q E hr => F.run A outer s H f cs us vs cvs Q E (hr.mono h)⟩
def Its (z : Str) : It := ⟨fun i _ => i < z.length, fun i H x H' => H' = H ∧ ∃ c, z.cps[i]? = some c ∧ x = .str ⟨#[c]⟩, fun i _ => z.length ≤ i⟩
theorem turn_str {P : Program} {w : World} {K : PySem.W.Frag} {tg : Expr} (z : Str) (t : Tok) (it : Addr) : Turn P w K tg (Its z) [it] it (fun i h => h.IsStrIter it "str_ascii_iterator" z t i) where
  mem := by simp
  obj := fun i h st b hb => by
    have e : b = it := by simpa using hb
    subst e
    obtain ⟨o, e, c, d⟩ := st
    exact ⟨o, e, fun v z => by rw [d] at z; cases z⟩
  keep := fun i h h' st k => let ⟨o, ho, r⟩ := st; ⟨o, k it (by simp) o ho, r⟩
  item := by
    intro X hP hw hK hc i pins s σ H E I hf st hg
    subst hP hw hK
    obtain ⟨f0, f1, f2, f3, f4, f5⟩ := hf it (by simp)
    have hi : i < z.cps.size := hg
    refine wpAny_pyNext_ascii_item st (c := z.cps[i]) (Array.getElem?_eq_getElem hi) fun h' st' sb => ?_
    have I1 : Inv X pins σ H { s with heap := h', toks := s.toks + 1 } := I.turned (t' := s.toks + 1) (fun b o hb e => (sb.2 b hb).trans e) f0 f1 f3 f4 f5
    obtain ⟨o, e, c, d⟩ := id st'
    exact ⟨_, rfl, go_of (s := { s with heap := h', toks := s.toks + 1 }) e c d (by decide) ⟨.str ⟨#[z.cps[i]]⟩, H, I1, ⟨_, rfl⟩, ⟨rfl, _, Array.getElem?_eq_getElem hi, rfl⟩, st', fun b hb => (hf b hb).1⟩⟩
  done := by
    intro X hP hw hK hc i pins s σ H E I hf st hg
    subst hP hw hK
    obtain ⟨f0, f1, f2, f3, f4, f5⟩ := hf it (by simp)
    exact wpAny_pyNext_ascii_end (I.ok.hd hc) st (Array.getElem?_eq_none (show z.cps.size ≤ i from hg)) fun h' eb => ⟨rfl, I.turned (t' := s.toks) (fun b o hb e => eb b o hb e) f0 f1 f3 f4 f5⟩
  self := fun A i s Q E st h => by
    refine wpAny_pyIter_slot st.typeIs F.slot_str_ascii_iterator_iter (wpAny_call_entry F.slot_str_ascii_iterator_iter st.typeIs F.entry_str_ascii_iterator_iter ?_ (F.args_str_ascii_iterator_iter_1 _))
    show wpAny _ _ (ret (.ref it)) _ _ s
    exact wpAny_pure ⟨_, rfl, "str_ascii_iterator", _, st.typeIs, F.slot_str_ascii_iterator_next.lookup, h⟩
variable {a : Expr} {ta : TE} {tg : Expr}
def iSeqA (K : PySem.W.Frag) (tl : TE) : TI := fun σ H R => tl σ H fun x H1 => match x with
  | .str z => z.cps.all (· < 128) = true ∧ R (Its z) H1
  | x => ∃ a, x = .ref a ∧ (((∃ xs, SqL K H1 a xs) ∧ R (Itl K a) H1) ∨ ((∃ xs, SqT K H1 a xs) ∧ R (Itt K a) H1))
theorem x_seqA (h : QE X a ta) : QI X tg a (iSeqA X.K ta) := ⟨fun pins s σ H R I hw => by
  refine thn (h.out pins s σ H _ I hw) fun v s1 ⟨x, H1, I1, r1, q1⟩ => ?_
  cases x with
  | str z =>
    obtain ⟨t, rfl⟩ := r1
    refine wpAny_pyIter_ascii q1.1 ?_
    refine ⟨s1.heap.objs.size, [s1.heap.objs.size], _, _, H1, rfl, I1.kept (t' := s1.toks) fun b o e => Heap.get?_push_of_some _ e, turn_str z t _, ⟨_, Heap.get?_push_size _ rfl, rfl, rfl⟩, fun b hb => ?_, q1.2⟩
    have e : b = s1.heap.objs.size := by simpa using hb
    subst e
    exact I1.fpOk (Nat.le_refl _) (I1.hok.fresh (Nat.le_refl _))
  | ref c =>
    obtain ⟨a, e, q⟩ := q1
    cases e
    cases r1
    rcases q with ⟨⟨xs, hq⟩, q⟩ | ⟨⟨xs, hq⟩, q⟩
    · obtain ⟨its, rv, p, hz⟩ := I1.list hq
      refine wpAny_pyIter_list (plain_is p) ?_
      refine ⟨s1.heap.objs.size, [s1.heap.objs.size], _, _, H1, rfl, I1.kept (t' := s1.toks) fun b o e => Heap.get?_push_of_some _ e, turn_list _ _, ⟨_, Heap.get?_push_size _ rfl, rfl, rfl⟩, fun b hb => ?_, q⟩
      have e : b = s1.heap.objs.size := by simpa using hb
      subst e
      exact I1.fpOk (Nat.le_refl _) (I1.hok.fresh (Nat.le_refl _))
    · obtain ⟨its, rv, p, hz⟩ := I1.tuple hq
      refine wpAny_pyIter_tuple (show s1.heap.IsTuple c its.toArray from p) ?_
      refine ⟨s1.heap.objs.size, [s1.heap.objs.size], _, _, H1, rfl, I1.kept (t' := s1.toks) fun b o e => Heap.get?_push_of_some _ e, turn_tuple _ _, ⟨_, Heap.get?_push_size _ rfl, rfl, rfl⟩, fun b hb => ?_, q⟩
      have e : b = s1.heap.objs.size := by simpa using hb
      subst e
      exact I1.fpOk (Nat.le_refl _) (I1.hok.fresh (Nat.le_refl _))
  | _ => obtain ⟨_, e, _⟩ := q1; cases e⟩
theorem op_mulS : OpR X (binaryOp .Mult) (fun x y H Q => ∃ z n, x = .str z ∧ y = .int n ∧ (-1000 ≤ n ∧ n ≤ 1000 ∧ z.length ≤ 1000) ∧ Q (.str (Txt.mul z n)) H) := by
  intro pins s σ H x y v u Q I rx ry h
  obtain ⟨z, n, rfl, rfl, ⟨h1, h2, h3⟩, q⟩ := h
  obtain ⟨t, rfl⟩ := rx
  obtain ⟨t', rfl⟩ := ry
  refine SB.mul ⟨?_, fun hn _ => ?_, fun hn _ => ?_⟩ fun t' k => ⟨.str _, H, I.tok k, ⟨_, rfl⟩, q⟩
  · rw [decide_eq_false (by omega), decide_eq_false (by omega)]; rfl
  · intro hgt
    have h5 : (1000 : Int) ≤ (2 ^ 63 - 1) / n := Int.le_ediv_of_mul_le (by omega) (by omega)
    omega
  · have h6 : z.length * n.toNat ≤ 1000 * 1000 := Nat.mul_le_mul h3 (by omega)
    exact decide_eq_false (by rw [sizeLine_eq]; omega)
end
end L2
namespace L2
open PySem PySem.Spec PyProof.Rows
theorem Items.str (z : Str) : Items (Its z) z.length (fun i => .str ⟨#[z.cps.getD i 0]⟩) (fun _ => True) where
  go := fun i H hi _ => hi
  yld := fun i H x H' hi _ y => ⟨y.1, by obtain ⟨_, c, hc, rfl⟩ := y; simp [Array.getD_eq_getD_getElem?, hc]⟩
  stop := fun H _ => Nat.le_refl _
theorem map_get {α β : Type} {f : α → β} {l : List α} {i : Nat} {x : β} (h : (l.map f)[i]? = some x) : ∃ a, l[i]? = some a ∧ x = f a := by
  rw [List.getElem?_map] at h
  cases e : l[i]? with
  | none => rw [e] at h; cases h
  | some a => rw [e] at h; cases h; exact ⟨a, rfl, rfl⟩
theorem CloAt.keep {H H' : Hp} {f : Addr} {t : CloT} {cs : List Addr} {cvs : List V} (k : ∀ b φ, H b = some (.ext φ) → H' b = some (.ext φ)) (c : CloAt H f t cs cvs) : CloAt H' f t cs cvs := by
  obtain ⟨⟨a, h1, h2⟩, h3⟩ := c
  refine ⟨⟨a, k _ _ h1, k _ _ h2⟩, ?_⟩
  clear h1 h2
  induction h3 with
  | nil => exact .nil
  | cons r t ih => exact .cons (k _ _ r) ih
theorem ixL {K : PySem.W.Frag} {H : Hp} {Q : VK} {L : Addr} {xs : List V} {x : V} {i : Int} {j : Nat} (hL : H L = some (.lst xs)) (e : i = j) (hx : xs[j]? = some x) (q : Q x H) : rIxA K (.ref L) (.int i) H Q := by
  subst e
  refine .inl (.inl ⟨L, xs, j, x, rfl, rfl, SqL.of hL, ?_, q⟩)
  have hj := (List.getElem?_eq_some_iff.mp hx).1
  rw [atI_lt (by omega) (by omega)]
  simp [List.getD_eq_getElem?_getD, hx]
def tabsApart (K : PySem.W.Frag) (ns : List Str) : Bool := decide ((ns.map fun n => (PySem.W.tabIn K n).map (·.2)).Nodup)
theorem apart_of {l : List Addr} (h : (l.map some).Nodup) : l.Nodup := List.Pairwise.of_map some (fun a b h e => h (congrArg some e)) h
end L2
namespace HT
open PySem PyProof.Rows
theorem noFill_tuple_mul : fillsNumberSlot (.type "tuple") "mul" = pure false :=
  PySem.fillsNumberSlot_seq (id := "tuple.__mul__") (r := some (.builtin "tuple.__rmul__")) F.slot_tuple_mul.lookup (by decide +kernel) F.slot_tuple_rmul.lookup (by decide +kernel)
theorem repeat_tuple : seqRepeat? (.type "tuple") = pure (some (.builtin "tuple.__mul__")) := by
  unfold seqRepeat?
  rw [PySem.seqSlot_of (T := "tuple") (name := "__mul__") (id := "tuple.__mul__") F.slot_tuple_mul.lookup (by decide +kernel), PySem.seqSlot_of (T := "tuple") (name := "__rmul__") (id := "tuple.__rmul__") F.slot_tuple_rmul.lookup (by decide +kernel)]
  rfl
theorem int_rmul_tuple (a : Int) (t : Tok) (l : Addr) (items : Array Value) (n : Nat) (dd : Option Addr) (sl : Array (Option Value)) :
    Meets (Builtin.«int.__rmul__» ⟨[.int a t, .ref l], []⟩) (fun _ R s => s.heap.get? l = some { cls := .type "tuple", dict := dd, data := .seq items n, slots := sl } ∧ R (.ok (.ret Value.notImplemented)) s) :=
  .of_wp fun prog w A R s h => by obtain ⟨hp, g, d, tk, os⟩ := s; obtain ⟨hl, h⟩ := h; wp_walk; exact ⟨_, rfl, h⟩
theorem tuple_mul1 (l : Addr) (items : Array Value) (n : Nat) (x : Int) (u : Tok) (dd : Option Addr) (sl : Array (Option Value)) (h0 : (decide (x < -(2 ^ 63)) || decide (x ≥ 2 ^ 63)) = false) (h1 : (items.isEmpty || x == 1) = true) :
    Meets (Builtin.«tuple.__mul__» ⟨[.ref l, .int x u], []⟩) (fun _ R s => s.heap.get? l = some { cls := .type "tuple", dict := dd, data := .seq items n, slots := sl } ∧ R (.ok (.ret (.ref l))) s) :=
  .of_wp fun prog w A R s h => by obtain ⟨hp, g, d, tk, os⟩ := s; obtain ⟨hl, h⟩ := h; have f1 := AutoSeq1.idx_int; have f2 := AutoSeq1.sub_tuple_tuple; wp_walk using wpAny_loadPart' hl; refine wpAny_ite_false (decide_eq_false (by rw [h0]; decide)) ?_; wp_walk using wpAny_loadPart' hl; exact ⟨_, rfl, h⟩
theorem tuple_mulN (l : Addr) (items : Array Value) (n : Nat) (x : Int) (u : Tok) (dd : Option Addr) (sl : Array (Option Value)) (h0 : (decide (x < -(2 ^ 63)) || decide (x ≥ 2 ^ 63)) = false) (h1 : (items.isEmpty || x == 1) = false)
    (h2 : (decide (x ≤ 0) || items.isEmpty) = false) (h3 : ¬ ((items.size : Int) * x > (2 ^ 63 - 1) / 8)) (h4 : ¬ Builtin.Tuple.tupleTooMany (items.size * x) = true) (h5 : (List.foldl (fun x1 x2 => x1 ++ x2) #[] (List.replicate x.toNat items)).size ≤ sizeLine) :
    Meets (Builtin.«tuple.__mul__» ⟨[.ref l, .int x u], []⟩) (fun _ R s => s.heap.get? l = some { cls := .type "tuple", dict := dd, data := .seq items n, slots := sl } ∧ R (.ok (.ret (Value.ref s.heap.objs.size))) { s with heap := s.heap.push { cls := Value.type "tuple", data := Data.seq (List.foldl (fun x1 x2 => x1 ++ x2) #[] (List.replicate x.toNat items)) }, toks := s.toks }) :=
  .of_wp fun prog w A R s h => by obtain ⟨hp, g, d, tk, os⟩ := s; obtain ⟨hl, h⟩ := h; have f1 := AutoSeq1.idx_int; have f2 := AutoSeq1.sub_tuple_tuple; wp_walk using wpAny_loadPart' hl; refine wpAny_ite_false (decide_eq_false (by rw [h0]; decide)) ?_; wp_walk using wpAny_loadPart' hl; refine wpAny_ite_false (decide_eq_false h3) ?_; wp_walk using wpAny_loadPart' hl; exact ⟨_, rfl, h⟩
end HT
namespace L2
open PySem PySem.Spec PyProof.Rows
section
variable {X : Cx}
def rRepT : R2 := fun x y H Q => ∃ a k xs, x = .ref a ∧ y = .int k ∧ H a = some (.tup xs) ∧ xs ≠ [] ∧ 1 ≤ k ∧ k ≤ 1000 ∧ xs.length ≤ 1000 ∧ ∀ p H', Same H H' → H' p = some (.tup (List.replicate k.toNat xs).flatten) → Q (.ref p) H'
theorem op_repT : OpR X (binaryOp .Mult) rRepT := by
  intro pins s σ H x y v u Q I rx ry h
  obtain ⟨a, k, xs, rfl, rfl, ha, hne, k1, k2, hl, q⟩ := h
  cases rx
  obtain ⟨t, rfl⟩ := ry
  obtain ⟨its, r, p1, hz⟩ := I.tuple (.inl (.inl ha))
  have hlen : its.length = xs.length := r.length.symm
  have hits : its ≠ [] := fun z => hne (r.nil_iff.mp z)
  obtain ⟨⟨cls, dd, data, sl⟩, ho, hc, n, hd⟩ := id p1
  simp only at hc hd
  subst hc hd
  have h0 : (decide (k < -(2 ^ 63)) || decide (k ≥ 2 ^ 63)) = false := by rw [decide_eq_false (by omega), decide_eq_false (by omega)]; rfl
  have hemp : its.toArray.isEmpty = false := by cases its with | nil => exact (hits rfl).elim | cons _ _ => rfl
  by_cases e : k = 1
  · subst e
    refine PySem.wpAny_binaryOp_repeat_ref (T := "tuple") (U := "int") (by decide) ⟨_, ho, rfl⟩ (fun s' => typeIs_int s' 1 t) HT.noFill_tuple_mul F.fills_int_mul F.slot_int_rmul HT.repeat_tuple F.slot_int_index.lookup
      (call_meets F.slot_int_rmul (typeIs_int s 1 t) F.entry_int_rmul (F.args_int_rmul_2 _ _) (HT.int_rmul_tuple 1 t a its.toArray n dd sl)
        ⟨ho, rfl, ⟨_, ho, rfl⟩, call_meets F.slot_tuple_mul ⟨_, ho, rfl⟩ F.entry_tuple_mul (F.args_tuple_mul_2 _ _) (HT.tuple_mul1 a its.toArray n 1 t dd sl h0 (by rw [hemp]; rfl)) ⟨ho, ?_⟩⟩)
    exact ⟨.ref a, H, I, rfl, q a H Same.rfl' (by rw [ha]; simp)⟩
  · have hsz : its.length * k.toNat ≤ 1000000 := Nat.le_trans (Nat.mul_le_mul (by omega : its.length ≤ 1000) (by omega : k.toNat ≤ 1000)) (by decide)
    have hszI : ((its.toArray.size : Nat) : Int) * k ≤ 1000000 := by
      have e1 : ((its.length * k.toNat : Nat) : Int) = (its.length : Int) * k := by rw [Int.natCast_mul, Int.toNat_of_nonneg (by omega)]
      rw [List.size_toArray, ← e1]; omega
    have hnew : List.foldl (fun x1 x2 => x1 ++ x2) #[] (List.replicate k.toNat its.toArray) = (List.replicate k.toNat its).flatten.toArray := by
      have := foldl_rep its k.toNat []
      rw [List.nil_append] at this
      exact this
    refine PySem.wpAny_binaryOp_repeat_ref (T := "tuple") (U := "int") (by decide) ⟨_, ho, rfl⟩ (fun s' => typeIs_int s' k t) HT.noFill_tuple_mul F.fills_int_mul F.slot_int_rmul HT.repeat_tuple F.slot_int_index.lookup
      (call_meets F.slot_int_rmul (typeIs_int s k t) F.entry_int_rmul (F.args_int_rmul_2 _ _) (HT.int_rmul_tuple k t a its.toArray n dd sl)
        ⟨ho, rfl, ⟨_, ho, rfl⟩, call_meets F.slot_tuple_mul ⟨_, ho, rfl⟩ F.entry_tuple_mul (F.args_tuple_mul_2 _ _) (HT.tuple_mulN a its.toArray n k t dd sl h0 (by rw [hemp]; simp [e]) (by rw [hemp, decide_eq_false (by omega)]; rfl) (by omega) ?_ ?_) ⟨ho, ?_⟩⟩)
    · unfold Builtin.Tuple.tupleTooMany
      rw [sizeLine_eq]
      simp only [gt_iff_lt, decide_eq_true_eq]
      omega
    · rw [hnew, List.size_toArray, len_rep, Nat.mul_comm]
      exact line_ge hsz
    · rw [hnew]
      refine ⟨.ref s.heap.objs.size, _, I.laid (t' := s.toks) (o := .tup (List.replicate k.toNat xs).flatten) (fun b ob q => Heap.get?_push_of_some _ q) (Nat.le_refl _) ?_, rfl, q _ _ (Same.upd (I.hok.fresh (Nat.le_refl _))) upd_same⟩
      exact ⟨by rw [len_rep, ← hlen, Nat.mul_comm]; exact line_ge hsz, _, r.rep k.toNat, IsTup.new _ _⟩
def mMulB : R2 := fun x y H Q => match x, y with
  | .str z, .int n => (-1000 ≤ n ∧ n ≤ 1000 ∧ z.length ≤ 1000) ∧ Q (.str (Txt.mul z n)) H
  | .ref a, .int n => rRepT (.ref a) (.int n) H Q
  | x, y => mMul x y H Q
theorem oMulB : OpR X (binaryOp .Mult) mMulB := (op_mulS.or (op_repT.or oMul)).imp fun x y H Q q => by
  unfold mMulB at q
  split at q
  · exact .inl ⟨_, _, rfl, rfl, q.1, q.2⟩
  · exact .inr (.inl q)
  · exact .inr (.inr q)
end
end L2
namespace L2
open PySem PySem.Spec PyProof.Rows
end L2
namespace L2
open PySem PySem.Spec PyProof.Rows
section
variable {X : Cx}
def rInsert : V → List V → Hp → VK → Prop := fun x vs H Q => ∃ l xs i y, x = .ref l ∧ vs = [.int i, y] ∧ H l = some (.lst xs) ∧ 0 ≤ i ∧ i ≤ xs.length ∧ xs.length < sizeLine ∧ Q .non (upd H l (.lst (xs.take i.toNat ++ y :: xs.drop i.toNat)))
theorem mt_insert : MtM X "list.insert" rInsert := by
  intro pins s σ H x vs v us Q I rx rv h
  obtain ⟨l, xs, i, y, rfl, rfl, hH, h0, h1, hz, q⟩ := h
  cases rx
  cases rv with
  | cons ri rv =>
    obtain ⟨t, rfl⟩ := ri
    have rv2 : Vals [y] _ := rv
    obtain ⟨u, rfl, ru⟩ := rv2.one
    obtain ⟨z, its, n, r, hl, e⟩ := I.lstM hH
    have hfit : ¬ (!Builtin.List.listFitsIndex i) = true := by
      rw [fitsIndex_both (by omega) (by rw [sizeLine_eq] at hz; omega)]
      exact Bool.false_ne_true
    refine call_meets F.slot_list_insert ⟨_, e, rfl⟩ F.entry_list_insert (F.args_list_insert_3 _ _ _) (AutoSeq1.list_insert_list_int_val_1 l its.toArray n i t u hfit (by rw [List.size_toArray]; omega)) ⟨e, ?_⟩
    refine ⟨.non, _, I.lset (its' := its.take i.toNat ++ u :: its.drop i.toNat) hH e ?_ (Vals.append (r.take _) (.cons ru (r.drop _))) ?_, rfl, q⟩
    · have hk : (if i < 0 then (i + (its.toArray.size : Int)).toNat else min i.toNat its.toArray.size) = i.toNat := by
        rw [if_neg (by omega), List.size_toArray]; omega
      dsimp only
      rw [hk]
      apply Array.toList_inj.mp
      simp
      rw [List.take_of_length_le (by rw [List.length_drop]; exact Nat.le_refl _)]
    · rw [List.length_append, List.length_cons, List.length_take, List.length_drop]; omega
theorem op_isB : OpR X (compareOp .Is) (fun x y H Q => ∃ b c, x = .bl b ∧ y = .bl c ∧ Q (.bl (decide (b = c))) H) := by
  intro pins s σ H x y v u Q I rx ry h
  obtain ⟨b, c, rfl, rfl, q⟩ := h
  cases rx
  cases ry
  refine wpAny_is_plain (by rfl) (fin_bl I q ?_)
  cases b <;> cases c <;> rfl
theorem op_isnotB : OpR X (compareOp .IsNot) (fun x y H Q => ∃ b c, x = .bl b ∧ y = .bl c ∧ Q (.bl (!decide (b = c))) H) := by
  intro pins s σ H x y v u Q I rx ry h
  obtain ⟨b, c, rfl, rfl, q⟩ := h
  cases rx
  cases ry
  refine wpAny_isNot_plain (by rfl) (fin_bl I q ?_)
  cases b <;> cases c <;> rfl
def mIsA : R2 := fun x y H Q => match x, y with
  | .bl b, .bl c => Q (.bl (decide (b = c))) H
  | x, y => mIsN x y H Q
theorem oIsA : OpR X (compareOp .Is) mIsA := (op_isB.or oIs).imp fun x y H Q q => by
  unfold mIsA at q
  split at q
  · exact .inl ⟨_, _, rfl, rfl, q⟩
  · exact .inr q
def mNotA : R2 := fun x y H Q => match x, y with
  | .bl b, .bl c => Q (.bl (!decide (b = c))) H
  | x, y => mNotN x y H Q
theorem oIsNotA : OpR X (compareOp .IsNot) mNotA := (op_isnotB.or oIsNot).imp fun x y H Q q => by
  unfold mNotA at q
  split at q
  · exact .inl ⟨_, _, rfl, rfl, q⟩
  · exact .inr q
theorem x_set2 {x y : Str} {px py ep pos : Pos} {ek : Nat} {e : Expr} {te : TE} (i j : Nat) (hN : X.N.Nodup) (hc : X.calm = true) (he : QE X e te) (hi : X.N[i]? = some x := by rfl) (hj : X.N[j]? = some y := by rfl)
    (hx : Loc X.env.scope x := by first | exact .inl rfl | exact .inr rfl) (hy : Loc X.env.scope y := by first | exact .inl rfl | exact .inr rfl)
    (fx : X.fn x = true ∨ X.env.scope.names.lookup x = some .local := by first | exact .inl rfl | exact .inr rfl) (fy : X.fn y = true ∨ X.env.scope.names.lookup y = some .local := by first | exact .inl rfl | exact .inr rfl)
    (hs : swapsWithSole [.Tuple [.Name x px, .Name y py] ek ep] e pos.line X.env = pure false := by rfl) (hw : swappedStores [.Tuple [.Name x px, .Name y py] ek ep] e X.env = pure none := by rfl) :
    QS X (.Assign [.Tuple [.Name x px, .Name y py] ek ep] e pos) (tAsg te (gTup X.K 2 (gCons (gName i) (gCons (gName j) gNil)))) :=
  ⟨ps_asg he.out (pg_tup hc (pgs_cons (pg_name hN hi hx fx) (pgs_cons (pg_name hN hj hy fy) pgs_nil))) hs hw⟩
end
end L2
namespace HT
open PySem PyProof.Rows
theorem sub_tuple_dict : isSubtype (.type "tuple") (.type "dict") = pure false := by rw [isSubtype_type]; kernel_rfl
theorem sub_dict_tuple : isSubtype (.type "dict") (.type "tuple") = pure false := by rw [isSubtype_type]; kernel_rfl
theorem dict_eq_no (l b : Addr) (o : Obj) (hc : o.cls = .type "dict") (o2 : Obj) (hc2 : o2.cls = .type "tuple") :
    Meets (Builtin.«dict.__eq__» ⟨[.ref l, .ref b], []⟩) (fun _ R s => s.heap.get? l = some o ∧ s.heap.get? b = some o2 ∧ R (.ok (.ret .notImplemented)) s) :=
  .of_wp fun prog w A R s h => by
    obtain ⟨hp, g, d, tk, os⟩ := s; obtain ⟨hl, hb, h⟩ := h; obtain ⟨cls, dd, data, sl⟩ := o; obtain ⟨cls2, dd2, data2, sl2⟩ := o2
    simp only at hc hc2; subst hc hc2
    have f1 := sub_tuple_dict; wp_walk using wpAny_loadPart' hl, wpAny_loadPart' hb; exact ⟨_, rfl, h⟩
theorem tuple_eq_no (l b : Addr) (o : Obj) (hc : o.cls = .type "tuple") (o2 : Obj) (hc2 : o2.cls = .type "dict") :
    Meets (Builtin.«tuple.__eq__» ⟨[.ref l, .ref b], []⟩) (fun _ R s => s.heap.get? l = some o ∧ s.heap.get? b = some o2 ∧ R (.ok (.ret .notImplemented)) s) :=
  .of_wp fun prog w A R s h => by
    obtain ⟨hp, g, d, tk, os⟩ := s; obtain ⟨hl, hb, h⟩ := h; obtain ⟨cls, dd, data, sl⟩ := o; obtain ⟨cls2, dd2, data2, sl2⟩ := o2
    simp only at hc hc2; subst hc hc2
    have f1 := sub_dict_tuple; wp_walk using wpAny_loadPart' hl, wpAny_loadPart' hb; exact ⟨_, rfl, h⟩
end HT
namespace L2
open PySem PySem.Spec PyProof.Rows
section
variable {X : Cx}
def rEqDT (K : PySem.W.Frag) : R2 := fun x y H Q => ∃ a b ys, x = .ref a ∧ y = .ref b ∧ ((∃ kvs, H a = some (.dK kvs)) ∨ ∃ kvs, H a = some (.dT kvs)) ∧ SqT K H b ys ∧ Q (.bl false) H
theorem op_eqDT (hu : X.A.units < cLine) : OpR X (compareOp .Eq) (rEqDT X.K) := by
  intro pins s σ H x y v u Q I rx ry h
  obtain ⟨a, b, ys, rfl, rfl, ha, hb, q⟩ := h
  cases rx
  cases ry
  obtain ⟨its, _, p1, _⟩ := I.tuple hb
  obtain ⟨o2, ho2, hc2, _⟩ := id p1
  obtain ⟨o, ho, hc⟩ : ∃ o, s.heap.get? a = some o ∧ o.cls = .type "dict" := by
    rcases ha with ⟨kvs, e⟩ | ⟨kvs, e⟩
    · obtain ⟨_, _, _, _, o, _, _, h1, h2, _⟩ := (show ObjOk X.prog X.w H s.heap a (.dK kvs) from I.hok a _ e)
      exact ⟨o, h1, h2.1⟩
    · obtain ⟨_, _, _, _, o, _, _, h1, h2, _⟩ := (show ObjOk X.prog X.w H s.heap a (.dT kvs) from I.hok a _ e)
      exact ⟨o, h1, h2.1⟩
  have hne : a ≠ b := fun e => by
    subst e
    rw [ho] at ho2; cases ho2
    rw [hc] at hc2; exact absurd hc2 (by simp)
  show wpAny _ _ (richCompare .Eq (.ref a) (.ref b)) _ _ s
  exact SeqAt.rc_eq_decline_or (k := false) ⟨_, ho, hc⟩ ⟨_, ho2, hc2⟩ (by decide) F.sub_tuple_dict F.slot_dict_eq F.slot_tuple_eq_refl
    (fun _ hq => call_meets F.slot_dict_eq ⟨_, ho, hc⟩ F.entry_dict_eq (F.args_dict_eq_2 _ _) (HT.dict_eq_no a b o hc o2 hc2) ⟨ho, ho2, hq⟩)
    (fun _ hq => call_meets F.slot_tuple_eq_refl ⟨_, ho2, hc2⟩ F.entry_tuple_eq (F.args_tuple_eq_2 _ _) (HT.tuple_eq_no b a o2 hc2 o hc) ⟨ho2, ho, hq⟩)
    (fun _ hq => wpAny_isSame_ref_other hne ho ho2 (by rw [hc]; simp) hq) (.inr hu) ⟨.bl false, H, I, rfl, q⟩
def mEqC (K : PySem.W.Frag) : R2 := fun x y H Q => match x, y with
  | .ref a, .ref b => rEqT K (.ref a) (.ref b) H Q ∨ rEqD K (.ref a) (.ref b) H Q ∨ rEqDT K (.ref a) (.ref b) H Q
  | .ref a, y => rEqD K (.ref a) y H Q
  | x, .ref b => rEqD K x (.ref b) H Q
  | x, y => mEq x y H Q
theorem oEqC (hu : X.A.units + 150 < cLine) : OpR X (compareOp .Eq) (mEqC X.K) := ((op_eqT (by omega)).or ((op_eqD hu).or ((op_eqDT (by omega)).or oEq))).imp fun x y H Q q => by
  unfold mEqC at q
  split at q
  · exact q.elim .inl fun z => z.elim (fun z => .inr (.inl z)) fun z => .inr (.inr (.inl z))
  · exact .inr (.inl q)
  · exact .inr (.inl q)
  · exact .inr (.inr (.inr q))
end
end L2
namespace Rs
open PySem PySem.Spec PyProof.Rows L2
def top (i : Nat) : Stmt := PySem.Challenge.pw_rootstamp_k21_what_is_a_slip.main.body.getD i (.Pass ⟨0, 0, 0, 0⟩)
abbrev s__law_bits : Stmt := top 17
abbrev s__law_at : Stmt := top 16
abbrev s__law_key : Stmt := top 18
abbrev s__law_mark : Stmt := top 20
abbrev s__law_steps : Stmt := top 21
abbrev s__law_place : Stmt := top 22
abbrev s__law_text : Stmt := top 19
abbrev s__law_end : Stmt := top 23
abbrev s_is_whole : Stmt := top 1
abbrev s_is_stamp : Stmt := top 2
abbrev s_is_step : Stmt := top 11
abbrev s_are_steps : Stmt := top 10
abbrev s_start : Stmt := top 7
abbrev s_is_key : Stmt := top 5
abbrev s_is_value : Stmt := top 6
abbrev s_is_leaf : Stmt := top 13
abbrev s_is_fork : Stmt := top 14
abbrev s_is_end : Stmt := top 12
abbrev s_is_slip : Stmt := top 9
abbrev s__law_deep : Stmt := top 24
abbrev s__law_bad_steps : Stmt := top 25
abbrev s__law_bad_leaves : Stmt := top 26
abbrev s__law_bad_forks : Stmt := top 27
abbrev s__law_bad : Stmt := top 28
abbrev s__law_good : Stmt := top 29
abbrev s_law : Stmt := top 30
structure Adr where
  a__law_bits : Addr
  d__law_bits : FuncData
  a__law_at : Addr
  d__law_at : FuncData
  a__law_key : Addr
  d__law_key : FuncData
  a__law_mark : Addr
  d__law_mark : FuncData
  a__law_steps : Addr
  d__law_steps : FuncData
  a__law_place : Addr
  d__law_place : FuncData
  a__law_text : Addr
  d__law_text : FuncData
  a__law_end : Addr
  d__law_end : FuncData
  a_is_whole : Addr
  d_is_whole : FuncData
  a_is_stamp : Addr
  d_is_stamp : FuncData
  a_is_step : Addr
  d_is_step : FuncData
  a_are_steps : Addr
  d_are_steps : FuncData
  a_start : Addr
  d_start : FuncData
  a_is_key : Addr
  d_is_key : FuncData
  a_is_value : Addr
  d_is_value : FuncData
  a_is_leaf : Addr
  d_is_leaf : FuncData
  a_is_fork : Addr
  d_is_fork : FuncData
  a_is_end : Addr
  d_is_end : FuncData
  a_is_slip : Addr
  d_is_slip : FuncData
  a__law_deep : Addr
  d__law_deep : FuncData
  a__law_bad_steps : Addr
  d__law_bad_steps : FuncData
  a__law_bad_leaves : Addr
  d__law_bad_leaves : FuncData
  a__law_bad_forks : Addr
  d__law_bad_forks : FuncData
  a__law_bad : Addr
  d__law_bad : FuncData
  a__law_good : Addr
  d__law_good : FuncData
  a_law : Addr
  d_law : FuncData
structure Txt (K : PySem.W.Frag) (mg : Str → Option Value) (A : Adr) : Prop where
  f__law_bits : Fun K "_law_bits" "_law_bits" s__law_bits A.a__law_bits A.d__law_bits
  m__law_bits : mg "_law_bits" = some (.ref A.a__law_bits)
  b__law_bits : Binds K A.d__law_bits ["_law_cell"] []
  f__law_at : Fun K "_law_at" "_law_at" s__law_at A.a__law_at A.d__law_at
  m__law_at : mg "_law_at" = some (.ref A.a__law_at)
  b__law_at : Binds K A.d__law_at ["_law_script", "_law_k"] []
  f__law_key : Fun K "_law_key" "_law_key" s__law_key A.a__law_key A.d__law_key
  m__law_key : mg "_law_key" = some (.ref A.a__law_key)
  b__law_key : Binds K A.d__law_key ["_law_bits_here", "_law_cell", "_law_others"] []
  f__law_mark : Fun K "_law_mark" "_law_mark" s__law_mark A.a__law_mark A.d__law_mark
  m__law_mark : mg "_law_mark" = some (.ref A.a__law_mark)
  b__law_mark : Binds K A.d__law_mark ["_law_number"] []
  f__law_steps : Fun K "_law_steps" "_law_steps" s__law_steps A.a__law_steps A.d__law_steps
  m__law_steps : mg "_law_steps" = some (.ref A.a__law_steps)
  b__law_steps : Binds K A.d__law_steps ["_law_cell", "_law_low", "_law_bits_here"] []
  f__law_place : Fun K "_law_place" "_law_place" s__law_place A.a__law_place A.d__law_place
  m__law_place : mg "_law_place" = some (.ref A.a__law_place)
  b__law_place : Binds K A.d__law_place ["_law_steps_here", "_law_low"] []
  f__law_text : Fun K "_law_text" "_law_text" s__law_text A.a__law_text A.d__law_text
  m__law_text : mg "_law_text" = some (.ref A.a__law_text)
  b__law_text : Binds K A.d__law_text ["_law_cell"] []
  f__law_end : Fun K "_law_end" "_law_end" s__law_end A.a__law_end A.d__law_end
  m__law_end : mg "_law_end" = some (.ref A.a__law_end)
  b__law_end : Binds K A.d__law_end ["_law_cell", "_law_bits_here", "_law_key_here", "_law_low"] []
  f_is_whole : Fun K "is_whole" "is_whole" s_is_whole A.a_is_whole A.d_is_whole
  m_is_whole : mg "is_whole" = some (.ref A.a_is_whole)
  b_is_whole : Binds K A.d_is_whole ["thing"] []
  f_is_stamp : Fun K "is_stamp" "is_stamp" s_is_stamp A.a_is_stamp A.d_is_stamp
  m_is_stamp : mg "is_stamp" = some (.ref A.a_is_stamp)
  b_is_stamp : Binds K A.d_is_stamp ["thing"] []
  f_is_step : Fun K "is_step" "is_step" s_is_step A.a_is_step A.d_is_step
  m_is_step : mg "is_step" = some (.ref A.a_is_step)
  b_is_step : Binds K A.d_is_step ["bits", "least", "thing"] []
  f_are_steps : Fun K "are_steps" "are_steps" s_are_steps A.a_are_steps A.d_are_steps
  m_are_steps : mg "are_steps" = some (.ref A.a_are_steps)
  b_are_steps : Binds K A.d_are_steps ["bits", "thing"] []
  f_start : Fun K "start" "start" s_start A.a_start A.d_start
  m_start : mg "start" = some (.ref A.a_start)
  b_start : Binds K A.d_start ["bits", "key", "depth"] []
  f_is_key : Fun K "is_key" "is_key" s_is_key A.a_is_key A.d_is_key
  m_is_key : mg "is_key" = some (.ref A.a_is_key)
  b_is_key : Binds K A.d_is_key ["bits", "thing"] []
  f_is_value : Fun K "is_value" "is_value" s_is_value A.a_is_value A.d_is_value
  m_is_value : mg "is_value" = some (.ref A.a_is_value)
  b_is_value : Binds K A.d_is_value ["thing"] []
  f_is_leaf : Fun K "is_leaf" "is_leaf" s_is_leaf A.a_is_leaf A.d_is_leaf
  m_is_leaf : mg "is_leaf" = some (.ref A.a_is_leaf)
  b_is_leaf : Binds K A.d_is_leaf ["bits", "depth", "begin", "thing"] []
  f_is_fork : Fun K "is_fork" "is_fork" s_is_fork A.a_is_fork A.d_is_fork
  m_is_fork : mg "is_fork" = some (.ref A.a_is_fork)
  b_is_fork : Binds K A.d_is_fork ["bits", "depth", "begin", "thing"] []
  f_is_end : Fun K "is_end" "is_end" s_is_end A.a_is_end A.d_is_end
  m_is_end : mg "is_end" = some (.ref A.a_is_end)
  b_is_end : Binds K A.d_is_end ["bits", "key", "place", "thing"] []
  f_is_slip : Fun K "is_slip" "is_slip" s_is_slip A.a_is_slip A.d_is_slip
  m_is_slip : mg "is_slip" = some (.ref A.a_is_slip)
  b_is_slip : Binds K A.d_is_slip ["bits", "key", "thing"] []
  f__law_deep : Fun K "_law_deep" "_law_deep" s__law_deep A.a__law_deep A.d__law_deep
  m__law_deep : mg "_law_deep" = some (.ref A.a__law_deep)
  b__law_deep : Binds K A.d__law_deep ["_law_thing"] []
  f__law_bad_steps : Fun K "_law_bad_steps" "_law_bad_steps" s__law_bad_steps A.a__law_bad_steps A.d__law_bad_steps
  m__law_bad_steps : mg "_law_bad_steps" = some (.ref A.a__law_bad_steps)
  b__law_bad_steps : Binds K A.d__law_bad_steps ["_law_cell", "_law_steps_here", "_law_bits_here"] []
  f__law_bad_leaves : Fun K "_law_bad_leaves" "_law_bad_leaves" s__law_bad_leaves A.a__law_bad_leaves A.d__law_bad_leaves
  m__law_bad_leaves : mg "_law_bad_leaves" = some (.ref A.a__law_bad_leaves)
  b__law_bad_leaves : Binds K A.d__law_bad_leaves ["_law_bits_here", "_law_key_here", "_law_low", "_law_number"] []
  f__law_bad_forks : Fun K "_law_bad_forks" "_law_bad_forks" s__law_bad_forks A.a__law_bad_forks A.d__law_bad_forks
  m__law_bad_forks : mg "_law_bad_forks" = some (.ref A.a__law_bad_forks)
  b__law_bad_forks : Binds K A.d__law_bad_forks ["_law_bits_here", "_law_key_here", "_law_low", "_law_number"] []
  f__law_bad : Fun K "_law_bad" "_law_bad" s__law_bad A.a__law_bad A.d__law_bad
  m__law_bad : mg "_law_bad" = some (.ref A.a__law_bad)
  b__law_bad : Binds K A.d__law_bad ["_law_cell", "_law_bits_here", "_law_key_here", "_law_steps_here", "_law_end_here", "_law_low"] []
  f__law_good : Fun K "_law_good" "_law_good" s__law_good A.a__law_good A.d__law_good
  m__law_good : mg "_law_good" = some (.ref A.a__law_good)
  b__law_good : Binds K A.d__law_good ["_law_bits_here", "_law_key_here", "_law_steps_here", "_law_low", "_law_number"] []
  f_law : Fun K "law" "law" s_law A.a_law A.d_law
  m_law : mg "law" = some (.ref A.a_law)
  b_law : Binds K A.d_law ["_law_script"] []
  z_bool : mg "bool" = none
  z_int : mg "int" = none
  z_isinstance : mg "isinstance" = none
  z_len : mg "len" = none
  z_list : mg "list" = none
  z_range : mg "range" = none
  z_str : mg "str" = none
  z_tuple : mg "tuple" = none
  c_MOST_SIGNS : ∃ t, mg "MOST_SIGNS" = some (.int 60 t)
def Tabs0 (A : Adr) (H : Hp) : Prop := ([] : List Addr).Nodup
theorem sc__law_bits : FnScope ["_law_cell"] ["_law_cell"] (defScope s__law_bits) := ⟨rfl, rfl, rfl, by decide +kernel, rfl, by decide +kernel, by decide +kernel⟩
theorem sc__law_at : FnScope ["_law_script", "_law_k", "_law_number", "_law_cell"] ["_law_script", "_law_k"] (defScope s__law_at) := ⟨rfl, rfl, rfl, by decide +kernel, rfl, by decide +kernel, by decide +kernel⟩
theorem sc__law_key : FnScope ["_law_bits_here", "_law_cell", "_law_others", "_law_many", "_law_number", "_law_flip"] ["_law_bits_here", "_law_cell", "_law_others"] (defScope s__law_key) := ⟨rfl, rfl, rfl, by decide +kernel, rfl, by decide +kernel, by decide +kernel⟩
theorem sc__law_mark : FnScope ["_law_number"] ["_law_number"] (defScope s__law_mark) := ⟨rfl, rfl, rfl, by decide +kernel, rfl, by decide +kernel, by decide +kernel⟩
theorem sc__law_steps : FnScope ["_law_cell", "_law_low", "_law_bits_here", "_law_number", "_law_found", "_law_depth"] ["_law_cell", "_law_low", "_law_bits_here"] (defScope s__law_steps) := ⟨rfl, rfl, rfl, by decide +kernel, rfl, by decide +kernel, by decide +kernel⟩
theorem sc__law_place : FnScope ["_law_steps_here", "_law_low"] ["_law_steps_here", "_law_low"] (defScope s__law_place) := ⟨rfl, rfl, rfl, by decide +kernel, rfl, by decide +kernel, by decide +kernel⟩
theorem sc__law_text : FnScope ["_law_cell", "_law_signs", "_law_size", "_law_made", "_law_k"] ["_law_cell"] (defScope s__law_text) := ⟨rfl, rfl, rfl, by decide +kernel, rfl, by decide +kernel, by decide +kernel⟩
theorem sc__law_end : FnScope ["_law_cell", "_law_bits_here", "_law_key_here", "_law_low", "_law_number", "_law_depth", "_law_own", "_law_wide", "_law_rest", "_law_free"] ["_law_cell", "_law_bits_here", "_law_key_here", "_law_low"] (defScope s__law_end) := ⟨rfl, rfl, rfl, by decide +kernel, rfl, by decide +kernel, by decide +kernel⟩
theorem sc_is_whole : FnScope ["thing"] ["thing"] (defScope s_is_whole) := ⟨rfl, rfl, rfl, by decide +kernel, rfl, by decide +kernel, by decide +kernel⟩
theorem sc_is_stamp : FnScope ["thing"] ["thing"] (defScope s_is_stamp) := ⟨rfl, rfl, rfl, by decide +kernel, rfl, by decide +kernel, by decide +kernel⟩
theorem sc_is_step : FnScope ["bits", "least", "thing"] ["bits", "least", "thing"] (defScope s_is_step) := ⟨rfl, rfl, rfl, by decide +kernel, rfl, by decide +kernel, by decide +kernel⟩
theorem sc_are_steps : FnScope ["bits", "thing", "least", "step"] ["bits", "thing"] (defScope s_are_steps) := ⟨rfl, rfl, rfl, by decide +kernel, rfl, by decide +kernel, by decide +kernel⟩
theorem sc_start : FnScope ["bits", "key", "depth"] ["bits", "key", "depth"] (defScope s_start) := ⟨rfl, rfl, rfl, by decide +kernel, rfl, by decide +kernel, by decide +kernel⟩
theorem sc_is_key : FnScope ["bits", "thing"] ["bits", "thing"] (defScope s_is_key) := ⟨rfl, rfl, rfl, by decide +kernel, rfl, by decide +kernel, by decide +kernel⟩
theorem sc_is_value : FnScope ["thing"] ["thing"] (defScope s_is_value) := ⟨rfl, rfl, rfl, by decide +kernel, rfl, by decide +kernel, by decide +kernel⟩
theorem sc_is_leaf : FnScope ["bits", "depth", "begin", "thing"] ["bits", "depth", "begin", "thing"] (defScope s_is_leaf) := ⟨rfl, rfl, rfl, by decide +kernel, rfl, by decide +kernel, by decide +kernel⟩
theorem sc_is_fork : FnScope ["bits", "depth", "begin", "thing"] ["bits", "depth", "begin", "thing"] (defScope s_is_fork) := ⟨rfl, rfl, rfl, by decide +kernel, rfl, by decide +kernel, by decide +kernel⟩
theorem sc_is_end : FnScope ["bits", "key", "place", "thing", "begin"] ["bits", "key", "place", "thing"] (defScope s_is_end) := ⟨rfl, rfl, rfl, by decide +kernel, rfl, by decide +kernel, by decide +kernel⟩
theorem sc_is_slip : FnScope ["bits", "key", "thing", "place"] ["bits", "key", "thing"] (defScope s_is_slip) := ⟨rfl, rfl, rfl, by decide +kernel, rfl, by decide +kernel, by decide +kernel⟩
theorem sc__law_deep : FnScope ["_law_thing", "_law_k"] ["_law_thing"] (defScope s__law_deep) := ⟨rfl, rfl, rfl, by decide +kernel, rfl, by decide +kernel, by decide +kernel⟩
theorem sc__law_bad_steps : FnScope ["_law_cell", "_law_steps_here", "_law_bits_here", "_law_at_here", "_law_depth", "_law_mark_here", "_law_some", "_law_far", "_law_changed"] ["_law_cell", "_law_steps_here", "_law_bits_here"] (defScope s__law_bad_steps) := ⟨rfl, rfl, rfl, by decide +kernel, rfl, by decide +kernel, by decide +kernel⟩
theorem sc__law_bad_leaves : FnScope ["_law_bits_here", "_law_key_here", "_law_low", "_law_number", "_law_some", "_law_flip"] ["_law_bits_here", "_law_key_here", "_law_low", "_law_number"] (defScope s__law_bad_leaves) := ⟨rfl, rfl, rfl, by decide +kernel, rfl, by decide +kernel, by decide +kernel⟩
theorem sc__law_bad_forks : FnScope ["_law_bits_here", "_law_key_here", "_law_low", "_law_number", "_law_top", "_law_some", "_law_far", "_law_deep_here", "_law_depth", "_law_own", "_law_good_here", "_law_flip"] ["_law_bits_here", "_law_key_here", "_law_low", "_law_number"] (defScope s__law_bad_forks) := ⟨rfl, rfl, rfl, by decide +kernel, rfl, by decide +kernel, by decide +kernel⟩
theorem sc__law_bad : FnScope ["_law_cell", "_law_bits_here", "_law_key_here", "_law_steps_here", "_law_end_here", "_law_low", "_law_number", "_law_some"] ["_law_cell", "_law_bits_here", "_law_key_here", "_law_steps_here", "_law_end_here", "_law_low"] (defScope s__law_bad) := ⟨rfl, rfl, rfl, by decide +kernel, rfl, by decide +kernel, by decide +kernel⟩
theorem sc__law_good : FnScope ["_law_bits_here", "_law_key_here", "_law_steps_here", "_law_low", "_law_number", "_law_some", "_law_depth"] ["_law_bits_here", "_law_key_here", "_law_steps_here", "_law_low", "_law_number"] (defScope s__law_good) := ⟨rfl, rfl, rfl, by decide +kernel, rfl, by decide +kernel, by decide +kernel⟩
theorem sc_law : FnScope ["_law_script", "_law_bits_here", "_law_key_here", "_law_steps_here", "_law_low", "_law_end_here", "_law_cell"] ["_law_script"] (defScope s_law) := ⟨rfl, rfl, rfl, by decide +kernel, rfl, by decide +kernel, by decide +kernel⟩
end Rs
namespace Rs
open PySem PySem.Spec PyProof.Rows L2
inductive Dat where
  | non
  | bl (b : Bool)
  | int (i : Int)
  | str (z : Str)
  | lst (ds : List Dat)
  | tup (ds : List Dat)
  | dic
mutual
inductive DatW (H : Hp) : V → Dat → Prop
  | non : DatW H .non .non
  | bl (b) : DatW H (.bl b) (.bl b)
  | int (i) : DatW H (.int i) (.int i)
  | str (z) : DatW H (.str z) (.str z)
  | lst {a xs ds} : H a = some (.lst xs) → DatWs H xs ds → DatW H (.ref a) (.lst ds)
  | tup {a xs ds} : H a = some (.tup xs) → DatWs H xs ds → DatW H (.ref a) (.tup ds)
  | dic {a} : ((∃ kvs, H a = some (.dK kvs)) ∨ ∃ kvs, H a = some (.dT kvs)) → DatW H (.ref a) .dic
inductive DatWs (H : Hp) : List V → List Dat → Prop
  | nil : DatWs H [] []
  | cons {x xs d ds} : DatW H x d → DatWs H xs ds → DatWs H (x :: xs) (d :: ds)
end
mutual
def toPy : Dat → PyData
  | .non => .none
  | .bl b => .bool b
  | .int i => .int i
  | .str z => .str z
  | .lst ds => .list (toPys ds)
  | .tup ds => .tuple (toPys ds)
  | .dic => .none
def toPys : List Dat → List PyData
  | [] => []
  | d :: r => toPy d :: toPys r
end
mutual
def okD : Dat → Bool
  | .str z => PyData.strOk z && decide (z.length ≤ 1000)
  | .lst ds => okDs ds
  | .tup ds => okDs ds
  | .dic => false
  | .non => true
  | .bl _ => true
  | .int _ => true
def okDs : List Dat → Bool
  | [] => true
  | d :: r => okD d && okDs r
end
def isWholeD : Dat → Bool
  | .int _ => true
  | _ => false
def isStampD : Dat → Bool
  | .int i => decide (0 ≤ i ∧ i < 10 ^ 60)
  | .str _ => true
  | _ => false
def isStrD (w : Str) : Dat → Bool
  | .str z => decide (z = w)
  | _ => false
def isKeyD (bits : Int) : Dat → Bool
  | .int i => decide (0 ≤ i ∧ i < 2 ^ bits.toNat)
  | _ => false
def isValueD : Dat → Bool
  | .str z => decide (z.length ≤ 60)
  | _ => false
def isStepD (bits least : Int) : Dat → Bool
  | .tup [.int d, m] => decide (least ≤ d ∧ d < bits) && isStampD m
  | _ => false
def depthOf : Dat → Int
  | .tup (.int d :: _) => d
  | _ => 0
def areStepsD (bits : Int) : Int → List Dat → Bool
  | _, [] => true
  | least, s :: r => isStepD bits least s && areStepsD bits (depthOf s + 1) r
def startI (bits key depth : Int) : Int := key / 2 ^ (bits - depth).toNat
def isLeafD (bits depth begin : Int) : Dat → Bool
  | .tup [w, .int k, z] => isStrD "leaf" w && decide (0 ≤ k ∧ k < 2 ^ bits.toNat) && isValueD z && decide (startI bits k depth = begin)
  | _ => false
def isForkD (bits depth begin : Int) : Dat → Bool
  | .tup [w, .int e, .int b, _, _] => isStrD "fork" w && decide (depth ≤ e ∧ e < bits) && decide (0 ≤ b ∧ b < 2 ^ e.toNat) && decide (b / 2 ^ (e - depth).toNat = begin)
  | _ => false
def isBareD : Dat → Bool
  | .tup [w] => isStrD "bare" w
  | _ => false
def tailD (bits key : Int) : Dat → Bool
  | .tup [_, .int e, .int b, m, n] => !decide (b = startI bits key e) && isStampD m && isStampD n
  | _ => false
def isEndD (bits key place : Int) (d : Dat) : Bool :=
  if isBareD d then decide (place = 0)
  else isLeafD bits place (startI bits key place) d || (isForkD bits place (startI bits key place) d && tailD bits key d)
def placeD (ds : List Dat) : Int := match ds.getLast? with
  | some s => depthOf s + 1
  | none => 0
def isSlipD (bits key : Int) : Dat → Bool
  | .tup [.tup ds, e] => areStepsD bits 0 ds && isEndD bits key (placeD ds) e
  | _ => false
def endOk (d : Dat) : Prop := (okD d = true ∧ (toPy d).depth ≤ 140) ∨ d = .dic
def sp_is_whole (K : PySem.W.Frag) (A : Adr) : Sp := fun vs H Q _ => ∃ v d, vs = [v] ∧ DatW H v d ∧ Q (.bl (isWholeD d)) H
def sp_is_stamp (K : PySem.W.Frag) (A : Adr) : Sp := fun vs H Q _ => ∃ v d, vs = [v] ∧ DatW H v d ∧ Q (.bl (isStampD d)) H
def sp_is_step (K : PySem.W.Frag) (A : Adr) : Sp := fun vs H Q _ => ∃ (b l : Int) (v : V) (d : Dat), vs = [.int b, .int l, v] ∧ DatW H v d ∧ Q (.bl (isStepD b l d)) H
def sp_are_steps (K : PySem.W.Frag) (A : Adr) : Sp := fun vs H Q _ => ∃ (b : Int) (v : V) (d : Dat), vs = [.int b, v] ∧ DatW H v d ∧ Q (.bl (match d with | .tup ds => areStepsD b 0 ds | _ => false)) H
def sp_start (K : PySem.W.Frag) (A : Adr) : Sp := fun vs H Q _ => ∃ (b k d : Int), vs = [.int b, .int k, .int d] ∧ d ≤ b ∧ Q (.int (startI b k d)) H
def sp_is_key (K : PySem.W.Frag) (A : Adr) : Sp := fun vs H Q _ => ∃ (b : Int) (v : V) (d : Dat), vs = [.int b, v] ∧ 0 ≤ b ∧ b ≤ 60 ∧ DatW H v d ∧ Q (.bl (isKeyD b d)) H
def sp_is_value (K : PySem.W.Frag) (A : Adr) : Sp := fun vs H Q _ => ∃ (v : V) (d : Dat), vs = [v] ∧ DatW H v d ∧ okD d = true ∧ Q (.bl (isValueD d)) H
def sp_is_leaf (K : PySem.W.Frag) (A : Adr) : Sp := fun vs H Q _ => ∃ (b p g : Int) (v : V) (d : Dat), vs = [.int b, .int p, .int g, v] ∧ 0 ≤ b ∧ b ≤ 60 ∧ p ≤ b ∧ DatW H v d ∧ endOk d ∧ Q (.bl (isLeafD b p g d)) H
def sp_is_fork (K : PySem.W.Frag) (A : Adr) : Sp := fun vs H Q _ => ∃ (b p g : Int) (v : V) (d : Dat), vs = [.int b, .int p, .int g, v] ∧ 0 ≤ p ∧ b ≤ 60 ∧ p ≤ b ∧ DatW H v d ∧ endOk d ∧ Q (.bl (isForkD b p g d)) H
def sp_is_end (K : PySem.W.Frag) (A : Adr) : Sp := fun vs H Q _ => ∃ (b k p : Int) (v : V) (d : Dat), vs = [.int b, .int k, .int p, v] ∧ 0 ≤ p ∧ b ≤ 60 ∧ p ≤ b ∧ DatW H v d ∧ endOk d ∧ ∀ H', Same H H' → Q (.bl (isEndD b k p d)) H'
def slipOk : Dat → Prop
  | .tup [_, e] => endOk e
  | _ => True
def sp_is_slip (K : PySem.W.Frag) (A : Adr) : Sp := fun vs H Q _ => ∃ (b k : Int) (v : V) (d : Dat), vs = [.int b, .int k, v] ∧ 0 ≤ b ∧ b ≤ 60 ∧ DatW H v d ∧ slipOk d ∧ ∀ H', Same H H' → Q (.bl (isSlipD b k d)) H'
def datK : Key → Dat
  | .inl i => .int i
  | .inr z => .str z
def stampK (m : Key) : Prop := isStampD (datK m) = true ∧ okD (datK m) = true
def goodSteps (bits low : Int) (ds : List Dat) : Prop := areStepsD bits low ds = true ∧ okDs ds = true ∧ PyData.depthAll (toPys ds) ≤ 1
def placeFrom (low : Int) (ds : List Dat) : Int := match ds.getLast? with
  | some s => depthOf s + 1
  | none => low
def sp__law_at (K : PySem.W.Frag) (A : Adr) : Sp := fun vs H Q _ => ∃ (a : Addr) (ns : List Int) (k : Int), vs = [.ref a, .int k] ∧ SqL K H a (ns.map V.int) ∧ 0 ≤ k ∧ ∀ (z : Int) (H' : Hp), Same H H' → Q (.int z) H'
def sp__law_bits (K : PySem.W.Frag) (A : Adr) : Sp := fun vs H Q _ => ∃ c : Int, vs = [.int c] ∧ ∀ (b : Int) (H' : Hp), Same H H' → 1 ≤ b → b ≤ 60 → Q (.int b) H'
def sp__law_key (K : PySem.W.Frag) (A : Adr) : Sp := fun vs H Q _ => ∃ (b c : Int) (o : Addr), vs = [.int b, .int c, .ref o] ∧ 1 ≤ b ∧ b ≤ 60 ∧ H o = some (.lst []) ∧ ∀ (k : Int) (H' : Hp), Same H H' → 0 ≤ k → k < 2 ^ b.toNat → Q (.int k) H'
def sp__law_text (K : PySem.W.Frag) (A : Adr) : Sp := fun vs H Q _ => ∃ c : Int, vs = [.int c] ∧ ∀ (z : Str) (H' : Hp), Same H H' → z.length ≤ 60 → PyData.strOk z = true → Q (.str z) H'
def sp__law_mark (K : PySem.W.Frag) (A : Adr) : Sp := fun vs H Q _ => ∃ c : Int, vs = [.int c] ∧ ∀ m : Key, stampK m → Q (kV m) H
def sp__law_steps (K : PySem.W.Frag) (A : Adr) : Sp := fun vs H Q _ => ∃ (c l b : Int), vs = [.int c, .int l, .int b] ∧ 0 ≤ l ∧ l ≤ b ∧ b ≤ 60 ∧ ∀ (p : Addr) (ds : List Dat) (H' : Hp), Same H H' → DatW H' (.ref p) (.tup ds) → goodSteps b l ds → Q (.ref p) H'
def sp__law_place (K : PySem.W.Frag) (A : Adr) : Sp := fun vs H Q _ => ∃ (v : V) (ds : List Dat) (l b : Int), vs = [v, .int l] ∧ DatW H v (.tup ds) ∧ 0 ≤ l ∧ goodSteps b l ds ∧ ∀ H', Same H H' → Q (.int (placeFrom l ds)) H'
def sp__law_end (K : PySem.W.Frag) (A : Adr) : Sp := fun vs H Q _ => ∃ (c b k l : Int), vs = [.int c, .int b, .int k, .int l] ∧ 0 ≤ l ∧ l ≤ b ∧ 1 ≤ b ∧ b ≤ 60 ∧ 0 ≤ k ∧ k < 2 ^ b.toNat ∧ ∀ (v : V) (d : Dat) (H' : Hp), Same H H' → DatW H' v d → okD d = true → (toPy d).depth ≤ 1 → (∃ ds, d = .tup ds) → isEndD b k l d = true → Q v H'
def sp__law_deep (K : PySem.W.Frag) (A : Adr) : Sp := fun vs H Q _ => ∃ (v : V) (d : Dat), vs = [v] ∧ DatW H v d ∧ okD d = true ∧ (toPy d).depth ≤ 10 ∧ ∀ (v' : V) (ds : List Dat) (H' : Hp), Same H H' → DatW H' v' (.lst ds) → okDs ds = true → PyData.depthAll (toPys ds) ≤ 100 → Q v' H'
def sp__law_bad_steps (K : PySem.W.Frag) (A : Adr) : Sp := fun vs H Q _ => ∃ (c b : Int) (v : V) (ds : List Dat), vs = [.int c, v, .int b] ∧ 1 ≤ b ∧ b ≤ 60 ∧ DatW H v (.tup ds) ∧ goodSteps b 0 ds ∧ ds ≠ [] ∧ ∀ (v' : V) (es : List Dat) (H' : Hp), Same H H' → DatW H' v' (.tup es) → areStepsD b 0 es = false → Q v' H'
def BadEnds (b k l : Int) (H : Hp) (xs : List V) : Prop := ∀ x ∈ xs, ∃ d, DatW H x d ∧ endOk d ∧ isEndD b k l d = false
def sp__law_bad_leaves (K : PySem.W.Frag) (A : Adr) : Sp := fun vs H Q _ => ∃ (b k l n : Int), vs = [.int b, .int k, .int l, .int n] ∧ 0 ≤ l ∧ l ≤ b ∧ 1 ≤ b ∧ b ≤ 60 ∧ 0 ≤ k ∧ k < 2 ^ b.toNat ∧ ∀ (p : Addr) (xs : List V) (H' : Hp), Same H H' → H' p = some (.lst xs) → xs ≠ [] → BadEnds b k l H' xs → Q (.ref p) H'
def sp__law_bad_forks (K : PySem.W.Frag) (A : Adr) : Sp := fun vs H Q _ => ∃ (b k l n : Int), vs = [.int b, .int k, .int l, .int n] ∧ 0 ≤ l ∧ l ≤ b ∧ 1 ≤ b ∧ b ≤ 60 ∧ 0 ≤ k ∧ k < 2 ^ b.toNat ∧ ∀ (p : Addr) (xs : List V) (H' : Hp), Same H H' → H' p = some (.lst xs) → xs ≠ [] → BadEnds b k l H' xs → Q (.ref p) H'
def sp__law_bad (K : PySem.W.Frag) (A : Adr) : Sp := fun vs H Q _ => ∃ (c b k l : Int) (s e : V) (ds : List Dat) (d : Dat), vs = [.int c, .int b, .int k, s, e, .int l] ∧ 1 ≤ b ∧ b ≤ 60 ∧ 0 ≤ k ∧ k < 2 ^ b.toNat ∧ DatW H s (.tup ds) ∧ goodSteps b 0 ds ∧ l = placeFrom 0 ds ∧ DatW H e d ∧ okD d = true ∧ (toPy d).depth ≤ 1 ∧ (∃ es, d = .tup es) ∧ isEndD b k l d = true ∧
  ∀ (v : V) (t : Dat) (H' : Hp), Same H H' → DatW H' v t → slipOk t → isSlipD b k t = false → Q v H'
def sp__law_good (K : PySem.W.Frag) (A : Adr) : Sp := fun vs H Q _ => ∃ (b k l n : Int) (s : V) (ds : List Dat), vs = [.int b, .int k, s, .int l, .int n] ∧ 1 ≤ b ∧ b ≤ 60 ∧ 0 ≤ k ∧ k < 2 ^ b.toNat ∧ 0 ≤ n ∧ DatW H s (.tup ds) ∧ goodSteps b 0 ds ∧ l = placeFrom 0 ds ∧
  ∀ (v : V) (t : Dat) (H' : Hp), Same H H' → DatW H' v t → slipOk t → isSlipD b k t = true → Q v H'
def sp_law (K : PySem.W.Frag) (A : Adr) : Sp := fun vs H Q _ => ∃ (a : Addr) (ns : List Int), vs = [.ref a] ∧ SqL K H a (ns.map V.int) ∧ ns.length ≤ 63 ∧ Tabs0 A H ∧ ∀ H', Q (.bl true) H'
end Rs
namespace Rs
open PySem PySem.Spec PyProof.Rows L2

def T__law_bits (K : PySem.W.Frag) (A : Adr) : TS := tRet (tOp (mAddG K) (tC (.int 1)) (tOp (mMod) (tOp (mFdiv) (mVar 0) (tC (.int 3))) (tOp (rIxA K) (tLst (tCons (tC (.int 60)) (tCons (tC (.int 8)) (tCons (tC (.int 60)) (tNil))))) (tOp (mMod) (mVar 0) (tC (.int 3))))))
def T__law_at (K : PySem.W.Frag) (A : Adr) : TS := tSeq (mIfS (mTest (tOp (mLt) (mVar 1) (tCB (kLenA K) (tCons (mVar 0) (tNil))))) (tRet (tOp (rIxA K) (mVar 0) (mVar 1))) (tNext)) (tSeq (tAsg (tOp (mAddG K) (tC (.int 17)) (tCB (kLenA K) (tCons (mVar 0) (tNil)))) (gName 2)) (tSeq (tFor (iSeqA K (tSl (rSlA K) (mVar 0) (tNoPart) (tPart (tC (.int 5))))) (gName 3) (tAsg (tOp (mMod) (tOp (mAddG K) (tOp (mMulB) (mVar 2) (tC (.int 31))) (mVar 3)) (tC (.int 1000003))) (gName 2))) (tSeq (tAsg (tOp (mMod) (tOp (mAddG K) (mVar 2) (tOp (mMulB) (tC (.int 7919)) (mVar 1))) (tC (.int 1000003))) (gName 2)) (tRet (tOp (mMod) (tOp (mMulB) (mVar 2) (mVar 2)) (tC (.int 2147483629)))))))
def T__law_key (K : PySem.W.Frag) (A : Adr) : TS := tSeq (tAsg (tOp (mShl) (tC (.int 1)) (mVar 0)) (gName 3)) (tSeq (tAsg (tOp (mFdiv) (mVar 1) (tC (.int 5))) (gName 4)) (tSeq (mIfS (mTest (tOp (mEqC K) (tOp (mMod) (mVar 1) (tC (.int 5))) (tC (.int 0)))) (tRet (tOp (mMod) (mVar 4) (mVar 3))) (tNext)) (tSeq (mIfS (mTest (tOp (mEqC K) (tOp (mMod) (mVar 1) (tC (.int 5))) (tC (.int 1)))) (tRet (tOp (mSub) (tOp (mSub) (mVar 3) (tC (.int 1))) (tOp (mMod) (mVar 4) (mVar 3)))) (tNext)) (tSeq (mIfS (mAnd (mTest (tOp (mEqC K) (tOp (mMod) (mVar 1) (tC (.int 5))) (tC (.int 2)))) (mTest (tOp (mNeB K) (mVar 2) (tLst (tNil))))) (tSeq (tAsg (tOp (mMod) (tOp (mMod) (tOp (mMulB) (mVar 4) (tC (.int 48271))) (tC (.int 65537))) (mVar 0)) (gName 5)) (tRet (tOp (mXor) (tOp (rIxA K) (mVar 2) (tOp (mMod) (mVar 4) (tCB (kLenA K) (tCons (mVar 2) (tNil))))) (tOp (mShl) (tC (.int 1)) (mVar 5))))) (tNext)) (tRet (tOp (mMod) (tOp (mMulB) (mVar 4) (tC (.int 1152921504606846883))) (mVar 3)))))))
def T__law_mark (K : PySem.W.Frag) (A : Adr) : TS := tSeq (tAsg (tOp (mMod) (tOp (mMulB) (mVar 0) (tC (.int 69621))) (tC (.int 1000003))) (gName 0)) (tSeq (mIfS (mTest (tOp (mEqC K) (tOp (mMod) (mVar 0) (tC (.int 4))) (tC (.int 0)))) (tRet (tOp (mAddG K) (tC (.str "m")) (tCB (kStr) (tCons (tOp (mMod) (mVar 0) (tC (.int 50))) (tNil))))) (tNext)) (tSeq (mIfS (mTest (tOp (mEqC K) (tOp (mMod) (mVar 0) (tC (.int 4))) (tC (.int 1)))) (tRet (tOp (mMod) (tOp (mFdiv) (mVar 0) (tC (.int 4))) (tC (.int 12)))) (tNext)) (tSeq (mIfS (mTest (tOp (mEqC K) (tOp (mMod) (mVar 0) (tC (.int 4))) (tC (.int 2)))) (tRet (tOp (mMulB) (mVar 0) (tOp (mPow) (tC (.int 10)) (tC (.int 30))))) (tNext)) (tRet (tOp (mSub) (tOp (mSub) (tOp (mPow) (tC (.int 10)) (tC (.int 60))) (tC (.int 1))) (mVar 0))))))
def T__law_steps (K : PySem.W.Frag) (A : Adr) : TS := tSeq (tAsg (tOp (mMod) (tOp (mFdiv) (mVar 0) (tC (.int 4))) (tC (.int 65537))) (gName 3)) (tSeq (tAsg (tLst (tNil)) (gName 4)) (tSeq (tFor (iRng2 (tCons (mVar 1) (tCons (mVar 2) (tNil)))) (gName 5) (mIfS (mTest (tOp (mLt) (tOp (mMod) (tOp (mMod) (tOp (mMulB) (tOp (mMulB) (mVar 3) (tOp (mAddG K) (mVar 5) (tC (.int 3)))) (tC (.int 48271))) (tC (.int 65537))) (tC (.int 4))) (tOp (mMod) (mVar 0) (tC (.int 4))))) (tDrop (tBM K "list" rAppend (mVar 4) (tCons (tTup (tCons (mVar 5) (tCons (tCallX (sp__law_mark K A) (fun _ => E0) (tCons (tOp (mAddG K) (mVar 3) (tOp (mMulB) (tC (.int 97)) (mVar 5))) (tNil))) (tNil)))) (tNil)))) (tNext))) (tRet (tCB (kTuple K) (tCons (mVar 4) (tNil))))))
def T__law_place (K : PySem.W.Frag) (A : Adr) : TS := tSeq (mIfS (mTest (tOp (mEqC K) (mVar 0) (tTup (tNil)))) (tRet (mVar 1)) (tNext)) (tRet (tOp (mAddG K) (tOp (rIxA K) (tOp (rIxA K) (mVar 0) (tUn mNeg (tC (.int 1)))) (tC (.int 0))) (tC (.int 1))))
def R__law_text_7 (K : PySem.W.Frag) (A : Adr) : TS := tRet (mVar 3)
def R__law_text_6 (K : PySem.W.Frag) (A : Adr) : TS := tSeq (tFor (iRng1 (tCons (mVar 2) (tNil))) (gName 4) (tAsg (tOp (mAddG K) (mVar 3) (tOp (rIxA K) (mVar 1) (tOp (mMod) (tOp (mAddG K) (tOp (mFdiv) (mVar 0) (tC (.int 4))) (tOp (mMulB) (mVar 4) (tOp (mMod) (tOp (mFdiv) (mVar 0) (tC (.int 128))) (tC (.int 5))))) (tCB (kLenA K) (tCons (mVar 1) (tNil)))))) (gName 3))) (R__law_text_7 K A)
def R__law_text_5 (K : PySem.W.Frag) (A : Adr) : TS := tSeq (tAsg (tC (.str "")) (gName 3)) (R__law_text_6 K A)
def R__law_text_4 (K : PySem.W.Frag) (A : Adr) : TS := tSeq (mIfS (mTest (tOp (mEqC K) (tOp (mMod) (tOp (mFdiv) (mVar 0) (tC (.int 4))) (tC (.int 8))) (tC (.int 2)))) (tAsg (tOp (mMod) (tOp (mFdiv) (mVar 0) (tC (.int 32))) (tC (.int 61))) (gName 2)) (tNext)) (R__law_text_5 K A)
def T__law_text (K : PySem.W.Frag) (A : Adr) : TS := tSeq (tAsg (tC (.str " !\"#$&'()*+,-./0123456789:;<=>?@ABCDEFGHIJKLMNOPQRSTUVWXYZ[\\]^_`")) (gName 1)) (tSeq (tAsg (tOp (mAddG K) (mVar 1) (tC (.str "abcdefghijklmnopqrstuvwxyz{|}~"))) (gName 1)) (tSeq (tAsg (tOp (mMod) (mVar 0) (tC (.int 4))) (gName 2)) (tSeq (mIfS (mTest (tOp (mEqC K) (tOp (mMod) (tOp (mFdiv) (mVar 0) (tC (.int 4))) (tC (.int 8))) (tC (.int 1)))) (tAsg (tC (.int 60)) (gName 2)) (tNext)) (tSeq (mIfS (mTest (tOp (mEqC K) (tOp (mMod) (tOp (mFdiv) (mVar 0) (tC (.int 4))) (tC (.int 8))) (tC (.int 2)))) (tAsg (tOp (mMod) (tOp (mFdiv) (mVar 0) (tC (.int 32))) (tC (.int 61))) (gName 2)) (tNext)) (tSeq (tAsg (tC (.str "")) (gName 3)) (tSeq (tFor (iRng1 (tCons (mVar 2) (tNil))) (gName 4) (tAsg (tOp (mAddG K) (mVar 3) (tOp (rIxA K) (mVar 1) (tOp (mMod) (tOp (mAddG K) (tOp (mFdiv) (mVar 0) (tC (.int 4))) (tOp (mMulB) (mVar 4) (tOp (mMod) (tOp (mFdiv) (mVar 0) (tC (.int 128))) (tC (.int 5))))) (tCB (kLenA K) (tCons (mVar 1) (tNil)))))) (gName 3))) (tRet (mVar 3))))))))
def R__law_end_5 (K : PySem.W.Frag) (A : Adr) : TS := tRet (tTup (tCons (tC (.str "leaf")) (tCons (tOp (mAddG K) (tOp (mSub) (mVar 2) (tOp (mMod) (mVar 2) (mVar 9))) (tOp (mMod) (tOp (mMulB) (mVar 4) (tC (.int 982451653))) (mVar 9))) (tCons (tCallX (sp__law_text K A) (fun _ => E0) (tCons (tOp (mFdiv) (mVar 4) (tC (.int 3))) (tNil))) (tNil)))))
def R__law_end_4 (K : PySem.W.Frag) (A : Adr) : TS := tSeq (mIfS (mTest (tOp (mEqC K) (tOp (mMod) (mVar 0) (tC (.int 4))) (tC (.int 2)))) (tRet (tTup (tCons (tC (.str "leaf")) (tCons (mVar 2) (tCons (tCallX (sp__law_text K A) (fun _ => E0) (tCons (mVar 4) (tNil))) (tNil)))))) (tNext)) (R__law_end_5 K A)
def R__law_end_3 (K : PySem.W.Frag) (A : Adr) : TS := tSeq (tAsg (tOp (mShl) (tC (.int 1)) (tOp (mSub) (mVar 1) (mVar 3))) (gName 9)) (R__law_end_4 K A)
def R__law_end_2 (K : PySem.W.Frag) (A : Adr) : TS := tSeq (mIfS (mAnd (mTest (tOp (mEqC K) (tOp (mMod) (mVar 0) (tC (.int 4))) (tC (.int 1)))) (mTest (tOp (mLt) (tOp (mAddG K) (mVar 3) (tC (.int 1))) (mVar 1)))) (tSeq (tAsg (tOp (mAddG K) (tOp (mAddG K) (mVar 3) (tC (.int 1))) (tOp (mMod) (mVar 4) (tOp (mSub) (tOp (mSub) (mVar 1) (tC (.int 1))) (mVar 3)))) (gName 5)) (tSeq (tAsg (tOp (mShr) (mVar 2) (tOp (mSub) (mVar 1) (mVar 5))) (gName 6)) (tSeq (tAsg (tOp (mShl) (tC (.int 1)) (tOp (mSub) (mVar 5) (mVar 3))) (gName 7)) (tSeq (tAsg (tOp (mMod) (tOp (mAddG K) (tOp (mAddG K) (tOp (mMod) (mVar 6) (mVar 7)) (tC (.int 1))) (tOp (mMod) (tOp (mMulB) (mVar 4) (tC (.int 69621))) (tOp (mSub) (mVar 7) (tC (.int 1))))) (mVar 7)) (gName 8)) (tRet (tTup (tCons (tC (.str "fork")) (tCons (mVar 5) (tCons (tOp (mAddG K) (tOp (mSub) (mVar 6) (tOp (mMod) (mVar 6) (mVar 7))) (mVar 8)) (tCons (tCallX (sp__law_mark K A) (fun _ => E0) (tCons (mVar 4) (tNil))) (tCons (tCallX (sp__law_mark K A) (fun _ => E0) (tCons (tOp (mAddG K) (tOp (mFdiv) (mVar 4) (tC (.int 7))) (tC (.int 5))) (tNil))) (tNil)))))))))))) (tNext)) (R__law_end_3 K A)
def T__law_end (K : PySem.W.Frag) (A : Adr) : TS := tSeq (tAsg (tOp (mFdiv) (mVar 0) (tC (.int 4))) (gName 4)) (tSeq (mIfS (mAnd (mTest (tOp (mEqC K) (tOp (mMod) (mVar 0) (tC (.int 4))) (tC (.int 0)))) (mTest (tOp (mEqC K) (mVar 3) (tC (.int 0))))) (tRet (tTup (tCons (tC (.str "bare")) (tNil)))) (tNext)) (tSeq (mIfS (mAnd (mTest (tOp (mEqC K) (tOp (mMod) (mVar 0) (tC (.int 4))) (tC (.int 1)))) (mTest (tOp (mLt) (tOp (mAddG K) (mVar 3) (tC (.int 1))) (mVar 1)))) (tSeq (tAsg (tOp (mAddG K) (tOp (mAddG K) (mVar 3) (tC (.int 1))) (tOp (mMod) (mVar 4) (tOp (mSub) (tOp (mSub) (mVar 1) (tC (.int 1))) (mVar 3)))) (gName 5)) (tSeq (tAsg (tOp (mShr) (mVar 2) (tOp (mSub) (mVar 1) (mVar 5))) (gName 6)) (tSeq (tAsg (tOp (mShl) (tC (.int 1)) (tOp (mSub) (mVar 5) (mVar 3))) (gName 7)) (tSeq (tAsg (tOp (mMod) (tOp (mAddG K) (tOp (mAddG K) (tOp (mMod) (mVar 6) (mVar 7)) (tC (.int 1))) (tOp (mMod) (tOp (mMulB) (mVar 4) (tC (.int 69621))) (tOp (mSub) (mVar 7) (tC (.int 1))))) (mVar 7)) (gName 8)) (tRet (tTup (tCons (tC (.str "fork")) (tCons (mVar 5) (tCons (tOp (mAddG K) (tOp (mSub) (mVar 6) (tOp (mMod) (mVar 6) (mVar 7))) (mVar 8)) (tCons (tCallX (sp__law_mark K A) (fun _ => E0) (tCons (mVar 4) (tNil))) (tCons (tCallX (sp__law_mark K A) (fun _ => E0) (tCons (tOp (mAddG K) (tOp (mFdiv) (mVar 4) (tC (.int 7))) (tC (.int 5))) (tNil))) (tNil)))))))))))) (tNext)) (tSeq (tAsg (tOp (mShl) (tC (.int 1)) (tOp (mSub) (mVar 1) (mVar 3))) (gName 9)) (tSeq (mIfS (mTest (tOp (mEqC K) (tOp (mMod) (mVar 0) (tC (.int 4))) (tC (.int 2)))) (tRet (tTup (tCons (tC (.str "leaf")) (tCons (mVar 2) (tCons (tCallX (sp__law_text K A) (fun _ => E0) (tCons (mVar 4) (tNil))) (tNil)))))) (tNext)) (tRet (tTup (tCons (tC (.str "leaf")) (tCons (tOp (mAddG K) (tOp (mSub) (mVar 2) (tOp (mMod) (mVar 2) (mVar 9))) (tOp (mMod) (tOp (mMulB) (mVar 4) (tC (.int 982451653))) (mVar 9))) (tCons (tCallX (sp__law_text K A) (fun _ => E0) (tCons (tOp (mFdiv) (mVar 4) (tC (.int 3))) (tNil))) (tNil))))))))))
def T_is_whole (K : PySem.W.Frag) (A : Adr) : TS := tRet (mAndV (tCB (kIsi) (tCons (mVar 0) (tCons (tC (.ty "int")) (tNil)))) (mNotV (tCB (kIsi) (tCons (mVar 0) (tCons (tC (.ty "bool")) (tNil))))))
def T_is_stamp (K : PySem.W.Frag) (A : Adr) : TS := tSeq (mIfS (mTru K (tCallX (sp_is_whole K A) (fun _ => E0) (tCons (mVar 0) (tNil)))) (tRet (mChain (mLe) (mLt) (tC (.int 0)) (mVar 0) (tOp (mPow) (tC (.int 10)) (tC (.int 60))))) (tNext)) (tRet (tCB (kIsi) (tCons (mVar 0) (tCons (tC (.ty "str")) (tNil)))))
def T_is_step (K : PySem.W.Frag) (A : Adr) : TS := tSeq (mIfS (mOr (tNot (mTru K (tCB (kIsi) (tCons (mVar 2) (tCons (tC (.ty "tuple")) (tNil)))))) (mTest (tOp (mNeB K) (tCB (kLenA K) (tCons (mVar 2) (tNil))) (tC (.int 2))))) (tRet (tC (.bl false))) (tNext)) (tRet (mAndV (tCallX (sp_is_whole K A) (fun _ => E0) (tCons (tOp (rIxA K) (mVar 2) (tC (.int 0))) (tNil))) (mAndV (mChain (mLe) (mLt) (mVar 1) (tOp (rIxA K) (mVar 2) (tC (.int 0))) (mVar 0)) (tCallX (sp_is_stamp K A) (fun _ => E0) (tCons (tOp (rIxA K) (mVar 2) (tC (.int 1))) (tNil))))))
def T_are_steps (K : PySem.W.Frag) (A : Adr) : TS := tSeq (mIfS (tNot (mTru K (tCB (kIsi) (tCons (mVar 1) (tCons (tC (.ty "tuple")) (tNil)))))) (tRet (tC (.bl false))) (tNext)) (tSeq (tAsg (tC (.int 0)) (gName 2)) (tSeq (tFor (iSeqA K (mVar 1)) (gName 3) (tSeq (mIfS (tNot (mTru K (tCallX (sp_is_step K A) (fun _ => E0) (tCons (mVar 0) (tCons (mVar 2) (tCons (mVar 3) (tNil))))))) (tRet (tC (.bl false))) (tNext)) (tAsg (tOp (mAddG K) (tOp (rIxA K) (mVar 3) (tC (.int 0))) (tC (.int 1))) (gName 2)))) (tRet (tC (.bl true)))))
def T_start (K : PySem.W.Frag) (A : Adr) : TS := tRet (tOp (mShr) (mVar 1) (tOp (mSub) (mVar 0) (mVar 2)))
def T_is_key (K : PySem.W.Frag) (A : Adr) : TS := tRet (mAndV (tCallX (sp_is_whole K A) (fun _ => E0) (tCons (mVar 1) (tNil))) (mChain (mLe) (mLt) (tC (.int 0)) (mVar 1) (tOp (mShl) (tC (.int 1)) (mVar 0))))
def T_is_value (K : PySem.W.Frag) (A : Adr) : TS := tRet (mAndV (tCB (kIsi) (tCons (mVar 0) (tCons (tC (.ty "str")) (tNil)))) (tOp (mLe) (tCB (kLenA K) (tCons (mVar 0) (tNil))) (tC (.int 60))))
def T_is_leaf (K : PySem.W.Frag) (A : Adr) : TS := tSeq (mIfS (mOr (tNot (mTru K (tCB (kIsi) (tCons (mVar 3) (tCons (tC (.ty "tuple")) (tNil)))))) (mOr (mTest (tOp (mNeB K) (tCB (kLenA K) (tCons (mVar 3) (tNil))) (tC (.int 3)))) (mTest (tOp (mNeB K) (tOp (rIxA K) (mVar 3) (tC (.int 0))) (tC (.str "leaf")))))) (tRet (tC (.bl false))) (tNext)) (tSeq (mIfS (mOr (tNot (mTru K (tCallX (sp_is_key K A) (fun _ => E0) (tCons (mVar 0) (tCons (tOp (rIxA K) (mVar 3) (tC (.int 1))) (tNil)))))) (tNot (mTru K (tCallX (sp_is_value K A) (fun _ => E0) (tCons (tOp (rIxA K) (mVar 3) (tC (.int 2))) (tNil)))))) (tRet (tC (.bl false))) (tNext)) (tRet (tOp (mEqC K) (tCallX (sp_start K A) (fun _ => E0) (tCons (mVar 0) (tCons (tOp (rIxA K) (mVar 3) (tC (.int 1))) (tCons (mVar 1) (tNil))))) (mVar 2))))
def T_is_fork (K : PySem.W.Frag) (A : Adr) : TS := tSeq (mIfS (mOr (tNot (mTru K (tCB (kIsi) (tCons (mVar 3) (tCons (tC (.ty "tuple")) (tNil)))))) (mOr (mTest (tOp (mNeB K) (tCB (kLenA K) (tCons (mVar 3) (tNil))) (tC (.int 5)))) (mTest (tOp (mNeB K) (tOp (rIxA K) (mVar 3) (tC (.int 0))) (tC (.str "fork")))))) (tRet (tC (.bl false))) (tNext)) (tSeq (mIfS (mOr (tNot (mTru K (tCallX (sp_is_whole K A) (fun _ => E0) (tCons (tOp (rIxA K) (mVar 3) (tC (.int 1))) (tNil))))) (tNot (mTest (mChain (mLe) (mLt) (mVar 1) (tOp (rIxA K) (mVar 3) (tC (.int 1))) (mVar 0))))) (tRet (tC (.bl false))) (tNext)) (tSeq (mIfS (mOr (tNot (mTru K (tCallX (sp_is_whole K A) (fun _ => E0) (tCons (tOp (rIxA K) (mVar 3) (tC (.int 2))) (tNil))))) (tNot (mTest (mChain (mLe) (mLt) (tC (.int 0)) (tOp (rIxA K) (mVar 3) (tC (.int 2))) (tOp (mShl) (tC (.int 1)) (tOp (rIxA K) (mVar 3) (tC (.int 1)))))))) (tRet (tC (.bl false))) (tNext)) (tRet (tOp (mEqC K) (tOp (mShr) (tOp (rIxA K) (mVar 3) (tC (.int 2))) (tOp (mSub) (tOp (rIxA K) (mVar 3) (tC (.int 1))) (mVar 1))) (mVar 2)))))
def T_is_end (K : PySem.W.Frag) (A : Adr) : TS := tSeq (mIfS (mTest (tOp (mEqC K) (mVar 3) (tTup (tCons (tC (.str "bare")) (tNil))))) (tRet (tOp (mEqC K) (mVar 2) (tC (.int 0)))) (tNext)) (tSeq (tAsg (tCallX (sp_start K A) (fun _ => E0) (tCons (mVar 0) (tCons (mVar 1) (tCons (mVar 2) (tNil))))) (gName 4)) (tSeq (mIfS (mTru K (tCallX (sp_is_leaf K A) (fun _ => E0) (tCons (mVar 0) (tCons (mVar 2) (tCons (mVar 4) (tCons (mVar 3) (tNil))))))) (tRet (tC (.bl true))) (tNext)) (tSeq (mIfS (tNot (mTru K (tCallX (sp_is_fork K A) (fun _ => E0) (tCons (mVar 0) (tCons (mVar 2) (tCons (mVar 4) (tCons (mVar 3) (tNil)))))))) (tRet (tC (.bl false))) (tNext)) (tSeq (mIfS (mTest (tOp (mEqC K) (tOp (rIxA K) (mVar 3) (tC (.int 2))) (tCallX (sp_start K A) (fun _ => E0) (tCons (mVar 0) (tCons (mVar 1) (tCons (tOp (rIxA K) (mVar 3) (tC (.int 1))) (tNil))))))) (tRet (tC (.bl false))) (tNext)) (tRet (mAndV (tCallX (sp_is_stamp K A) (fun _ => E0) (tCons (tOp (rIxA K) (mVar 3) (tC (.int 3))) (tNil))) (tCallX (sp_is_stamp K A) (fun _ => E0) (tCons (tOp (rIxA K) (mVar 3) (tC (.int 4))) (tNil)))))))))
def T_is_slip (K : PySem.W.Frag) (A : Adr) : TS := tSeq (mIfS (mOr (tNot (mTru K (tCB (kIsi) (tCons (mVar 2) (tCons (tC (.ty "tuple")) (tNil)))))) (mTest (tOp (mNeB K) (tCB (kLenA K) (tCons (mVar 2) (tNil))) (tC (.int 2))))) (tRet (tC (.bl false))) (tNext)) (tSeq (mIfS (tNot (mTru K (tCallX (sp_are_steps K A) (fun _ => E0) (tCons (mVar 0) (tCons (tOp (rIxA K) (mVar 2) (tC (.int 0))) (tNil)))))) (tRet (tC (.bl false))) (tNext)) (tSeq (tAsg (mIf (mTru K (tOp (rIxA K) (mVar 2) (tC (.int 0)))) (tOp (mAddG K) (tOp (rIxA K) (tOp (rIxA K) (tOp (rIxA K) (mVar 2) (tC (.int 0))) (tUn mNeg (tC (.int 1)))) (tC (.int 0))) (tC (.int 1))) (tC (.int 0))) (gName 3)) (tRet (tCallX (sp_is_end K A) (fun _ => E0) (tCons (mVar 0) (tCons (mVar 1) (tCons (mVar 3) (tCons (tOp (rIxA K) (mVar 2) (tC (.int 1))) (tNil)))))))))
def T__law_deep (K : PySem.W.Frag) (A : Adr) : TS := tSeq (tFor (iRng1 (tCons (tC (.int 60)) (tNil))) (gName 1) (tAsg (tLst (tCons (mVar 0) (tNil))) (gName 0))) (tRet (mVar 0))
def R__law_bad_steps_10 (K : PySem.W.Frag) (A : Adr) : TS := tRet (tCB (kTuple K) (tCons (mVar 8) (tNil)))
def R__law_bad_steps_9 (K : PySem.W.Frag) (A : Adr) : TS := tSeq (mIfS (mTest (tOp (mEqC K) (tOp (mMod) (mVar 0) (tC (.int 11))) (tC (.int 0)))) (tDrop (tBM K "list" rInsert (mVar 8) (tCons (mVar 3) (tCons (tOp (rIxA K) (mVar 1) (mVar 3)) (tNil))))) (mIfS (mAnd (mTest (tOp (mEqC K) (tOp (mMod) (mVar 0) (tC (.int 11))) (tC (.int 1)))) (mTest (tOp (mGt) (tCB (kLenA K) (tCons (mVar 1) (tNil))) (tC (.int 1))))) (tDrop (tBM0 K "list" rReverse (mVar 8))) (mIfS (mAnd (mTest (tOp (mEqC K) (tOp (mMod) (mVar 0) (tC (.int 11))) (tC (.int 2)))) (mTest (tOp (mLt) (tOp (mAddG K) (mVar 3) (tC (.int 1))) (tCB (kLenA K) (tCons (mVar 1) (tNil)))))) (tSeq (tAsg (tOp (rIxA K) (mVar 1) (tOp (mAddG K) (mVar 3) (tC (.int 1)))) (gSub (mVar 8) (mVar 3) rSetA)) (tAsg (tOp (rIxA K) (mVar 1) (mVar 3)) (gSub (mVar 8) (tOp (mAddG K) (mVar 3) (tC (.int 1))) rSetA))) (mIfS (mAnd (mTest (tOp (mEqC K) (tOp (mMod) (mVar 0) (tC (.int 11))) (tC (.int 3)))) (mTest (tOp (mGt) (mVar 3) (tC (.int 0))))) (tAsg (tTup (tCons (tOp (rIxA K) (tOp (rIxA K) (mVar 1) (tOp (mSub) (mVar 3) (tC (.int 1)))) (tC (.int 0))) (tCons (mVar 5) (tNil)))) (gSub (mVar 8) (mVar 3) rSetA)) (tAsg (tOp (rIxA K) (mVar 6) (tOp (mMod) (tOp (mFdiv) (mVar 0) (tC (.int 77))) (tCB (kLenA K) (tCons (mVar 6) (tNil))))) (gSub (mVar 8) (mVar 3) rSetA)))))) (R__law_bad_steps_10 K A)
def R__law_bad_steps_8 (K : PySem.W.Frag) (A : Adr) : TS := tSeq (tAsg (tCB (kList K) (tCons (mVar 1) (tNil))) (gName 8)) (R__law_bad_steps_9 K A)
def R__law_bad_steps_7 (K : PySem.W.Frag) (A : Adr) : TS := tSeq (tAsg (tOp (mAddG K) (mVar 6) (tLst (tCons (tTup (tCons (mVar 7) (tCons (mVar 5) (tNil)))) (tCons (tTup (tCons (tUn mNeg (mVar 7)) (tCons (mVar 5) (tNil)))) (tCons (tTup (tCons (mVar 4) (tCons (mVar 7) (tNil)))) (tCons (tTup (tCons (mVar 4) (tCons (tUn mNeg (mVar 7)) (tNil)))) (tCons (tTup (tCons (mVar 4) (tCons (tC (.bl false)) (tNil)))) (tCons (tTup (tCons (tOp (mGt) (mVar 4) (tC (.int 0))) (tCons (mVar 5) (tNil)))) (tNil))))))))) (gName 6)) (R__law_bad_steps_8 K A)
def R__law_bad_steps_6 (K : PySem.W.Frag) (A : Adr) : TS := tSeq (tAsg (tOp (mMulB) (tOp (mPow) (tC (.int 10)) (tC (.int 45))) (tOp (mPow) (tC (.int 10)) (tC (.int 45)))) (gName 7)) (R__law_bad_steps_7 K A)
def R__law_bad_steps_5 (K : PySem.W.Frag) (A : Adr) : TS := tSeq (tAsg (tOp (mAddG K) (mVar 6) (tLst (tCons (tTup (tCons (mVar 4) (tCons (tCallX (sp__law_deep K A) (fun _ => E0) (tCons (mVar 5) (tNil))) (tNil)))) (tCons (tCallX (sp__law_deep K A) (fun _ => E0) (tCons (mVar 4) (tNil))) (tCons (tTup (tCons (mVar 4) (tCons (tDNewA) (tNil)))) (tCons (tTup (tCons (tC (.bl false)) (tCons (mVar 5) (tNil)))) (tNil))))))) (gName 6)) (R__law_bad_steps_6 K A)
def R__law_bad_steps_4 (K : PySem.W.Frag) (A : Adr) : TS := tSeq (tAsg (tOp (mAddG K) (mVar 6) (tLst (tCons (tTup (tCons (mVar 4) (tCons (tOp (mPow) (tC (.int 10)) (tC (.int 60))) (tNil)))) (tCons (tTup (tCons (mVar 4) (tCons (tC .non) (tNil)))) (tCons (tTup (tCons (mVar 4) (tCons (tC (.bl true)) (tNil)))) (tCons (tTup (tCons (mVar 4) (tCons (tLst (tCons (mVar 5) (tNil))) (tNil)))) (tCons (tTup (tCons (mVar 4) (tCons (tTup (tCons (mVar 5) (tNil))) (tNil)))) (tNil)))))))) (gName 6)) (R__law_bad_steps_5 K A)
def R__law_bad_steps_3 (K : PySem.W.Frag) (A : Adr) : TS := tSeq (tAsg (tOp (mAddG K) (mVar 6) (tLst (tCons (tTup (tCons (tC (.bl true)) (tCons (mVar 5) (tNil)))) (tCons (tTup (tCons (tC .non) (tCons (mVar 5) (tNil)))) (tCons (tTup (tCons (tC (.str "0")) (tCons (mVar 5) (tNil)))) (tCons (tTup (tCons (tOp (mAddG K) (mVar 2) (mVar 4)) (tCons (mVar 5) (tNil)))) (tCons (tTup (tCons (mVar 4) (tCons (tUn mNeg (tC (.int 1))) (tNil)))) (tNil)))))))) (gName 6)) (R__law_bad_steps_4 K A)
def R__law_bad_steps_2 (K : PySem.W.Frag) (A : Adr) : TS := tSeq (tAsg (tLst (tCons (tTup (tCons (mVar 4) (tNil))) (tCons (tTup (tCons (mVar 4) (tCons (mVar 5) (tCons (mVar 5) (tNil))))) (tCons (tLst (tCons (mVar 4) (tCons (mVar 5) (tNil)))) (tCons (mVar 4) (tCons (tC .non) (tCons (tTup (tCons (tUn mNeg (tC (.int 1))) (tCons (mVar 5) (tNil)))) (tCons (tTup (tCons (mVar 2) (tCons (mVar 5) (tNil)))) (tNil))))))))) (gName 6)) (R__law_bad_steps_3 K A)
def R__law_bad_steps_1 (K : PySem.W.Frag) (A : Adr) : TS := tSeq (tAsg (tOp (rIxA K) (mVar 1) (mVar 3)) (gTup K 2 (gCons (gName 4) (gCons (gName 5) gNil)))) (R__law_bad_steps_2 K A)
def T__law_bad_steps (K : PySem.W.Frag) (A : Adr) : TS := tSeq (tAsg (tOp (mMod) (tOp (mFdiv) (mVar 0) (tC (.int 11))) (tCB (kLenA K) (tCons (mVar 1) (tNil)))) (gName 3)) (tSeq (tAsg (tOp (rIxA K) (mVar 1) (mVar 3)) (gTup K 2 (gCons (gName 4) (gCons (gName 5) gNil)))) (tSeq (tAsg (tLst (tCons (tTup (tCons (mVar 4) (tNil))) (tCons (tTup (tCons (mVar 4) (tCons (mVar 5) (tCons (mVar 5) (tNil))))) (tCons (tLst (tCons (mVar 4) (tCons (mVar 5) (tNil)))) (tCons (mVar 4) (tCons (tC .non) (tCons (tTup (tCons (tUn mNeg (tC (.int 1))) (tCons (mVar 5) (tNil)))) (tCons (tTup (tCons (mVar 2) (tCons (mVar 5) (tNil)))) (tNil))))))))) (gName 6)) (tSeq (tAsg (tOp (mAddG K) (mVar 6) (tLst (tCons (tTup (tCons (tC (.bl true)) (tCons (mVar 5) (tNil)))) (tCons (tTup (tCons (tC .non) (tCons (mVar 5) (tNil)))) (tCons (tTup (tCons (tC (.str "0")) (tCons (mVar 5) (tNil)))) (tCons (tTup (tCons (tOp (mAddG K) (mVar 2) (mVar 4)) (tCons (mVar 5) (tNil)))) (tCons (tTup (tCons (mVar 4) (tCons (tUn mNeg (tC (.int 1))) (tNil)))) (tNil)))))))) (gName 6)) (tSeq (tAsg (tOp (mAddG K) (mVar 6) (tLst (tCons (tTup (tCons (mVar 4) (tCons (tOp (mPow) (tC (.int 10)) (tC (.int 60))) (tNil)))) (tCons (tTup (tCons (mVar 4) (tCons (tC .non) (tNil)))) (tCons (tTup (tCons (mVar 4) (tCons (tC (.bl true)) (tNil)))) (tCons (tTup (tCons (mVar 4) (tCons (tLst (tCons (mVar 5) (tNil))) (tNil)))) (tCons (tTup (tCons (mVar 4) (tCons (tTup (tCons (mVar 5) (tNil))) (tNil)))) (tNil)))))))) (gName 6)) (tSeq (tAsg (tOp (mAddG K) (mVar 6) (tLst (tCons (tTup (tCons (mVar 4) (tCons (tCallX (sp__law_deep K A) (fun _ => E0) (tCons (mVar 5) (tNil))) (tNil)))) (tCons (tCallX (sp__law_deep K A) (fun _ => E0) (tCons (mVar 4) (tNil))) (tCons (tTup (tCons (mVar 4) (tCons (tDNewA) (tNil)))) (tCons (tTup (tCons (tC (.bl false)) (tCons (mVar 5) (tNil)))) (tNil))))))) (gName 6)) (tSeq (tAsg (tOp (mMulB) (tOp (mPow) (tC (.int 10)) (tC (.int 45))) (tOp (mPow) (tC (.int 10)) (tC (.int 45)))) (gName 7)) (tSeq (tAsg (tOp (mAddG K) (mVar 6) (tLst (tCons (tTup (tCons (mVar 7) (tCons (mVar 5) (tNil)))) (tCons (tTup (tCons (tUn mNeg (mVar 7)) (tCons (mVar 5) (tNil)))) (tCons (tTup (tCons (mVar 4) (tCons (mVar 7) (tNil)))) (tCons (tTup (tCons (mVar 4) (tCons (tUn mNeg (mVar 7)) (tNil)))) (tCons (tTup (tCons (mVar 4) (tCons (tC (.bl false)) (tNil)))) (tCons (tTup (tCons (tOp (mGt) (mVar 4) (tC (.int 0))) (tCons (mVar 5) (tNil)))) (tNil))))))))) (gName 6)) (tSeq (tAsg (tCB (kList K) (tCons (mVar 1) (tNil))) (gName 8)) (tSeq (mIfS (mTest (tOp (mEqC K) (tOp (mMod) (mVar 0) (tC (.int 11))) (tC (.int 0)))) (tDrop (tBM K "list" rInsert (mVar 8) (tCons (mVar 3) (tCons (tOp (rIxA K) (mVar 1) (mVar 3)) (tNil))))) (mIfS (mAnd (mTest (tOp (mEqC K) (tOp (mMod) (mVar 0) (tC (.int 11))) (tC (.int 1)))) (mTest (tOp (mGt) (tCB (kLenA K) (tCons (mVar 1) (tNil))) (tC (.int 1))))) (tDrop (tBM0 K "list" rReverse (mVar 8))) (mIfS (mAnd (mTest (tOp (mEqC K) (tOp (mMod) (mVar 0) (tC (.int 11))) (tC (.int 2)))) (mTest (tOp (mLt) (tOp (mAddG K) (mVar 3) (tC (.int 1))) (tCB (kLenA K) (tCons (mVar 1) (tNil)))))) (tSeq (tAsg (tOp (rIxA K) (mVar 1) (tOp (mAddG K) (mVar 3) (tC (.int 1)))) (gSub (mVar 8) (mVar 3) rSetA)) (tAsg (tOp (rIxA K) (mVar 1) (mVar 3)) (gSub (mVar 8) (tOp (mAddG K) (mVar 3) (tC (.int 1))) rSetA))) (mIfS (mAnd (mTest (tOp (mEqC K) (tOp (mMod) (mVar 0) (tC (.int 11))) (tC (.int 3)))) (mTest (tOp (mGt) (mVar 3) (tC (.int 0))))) (tAsg (tTup (tCons (tOp (rIxA K) (tOp (rIxA K) (mVar 1) (tOp (mSub) (mVar 3) (tC (.int 1)))) (tC (.int 0))) (tCons (mVar 5) (tNil)))) (gSub (mVar 8) (mVar 3) rSetA)) (tAsg (tOp (rIxA K) (mVar 6) (tOp (mMod) (tOp (mFdiv) (mVar 0) (tC (.int 77))) (tCB (kLenA K) (tCons (mVar 6) (tNil))))) (gSub (mVar 8) (mVar 3) rSetA)))))) (tRet (tCB (kTuple K) (tCons (mVar 8) (tNil)))))))))))))
def R__law_bad_leaves_7 (K : PySem.W.Frag) (A : Adr) : TS := tRet (mVar 4)
def R__law_bad_leaves_6 (K : PySem.W.Frag) (A : Adr) : TS := tSeq (mIfS (mTest (tOp (mGt) (mVar 2) (tC (.int 0)))) (tSeq (tAsg (tOp (mShl) (tC (.int 1)) (tOp (mSub) (tOp (mSub) (mVar 0) (tC (.int 1))) (tOp (mMod) (mVar 3) (mVar 2)))) (gName 5)) (tAsg (tOp (mAddG K) (mVar 4) (tLst (tCons (tTup (tCons (tC (.str "bare")) (tNil))) (tCons (tTup (tCons (tC (.str "leaf")) (tCons (tOp (mXor) (mVar 1) (mVar 5)) (tCons (tC (.str "a")) (tNil))))) (tCons (tTup (tCons (tC (.str "leaf")) (tCons (tOp (mXor) (mVar 1) (mVar 5)) (tCons (tC (.str "")) (tNil))))) (tNil)))))) (gName 4))) (tNext)) (R__law_bad_leaves_7 K A)
def R__law_bad_leaves_5 (K : PySem.W.Frag) (A : Adr) : TS := tSeq (tAsg (tOp (mAddG K) (mVar 4) (tLst (tCons (tTup (tCons (tC (.str "leaf")) (tCons (tOp (mGt) (mVar 1) (tC (.int 0))) (tCons (tC (.str "a")) (tNil))))) (tCons (tTup (tCons (tC (.str "leaf")) (tCons (tOp (mMulB) (tOp (mPow) (tC (.int 10)) (tC (.int 45))) (tOp (mPow) (tC (.int 10)) (tC (.int 45)))) (tCons (tC (.str "")) (tNil))))) (tCons (tTup (tCons (tC (.str "leaf")) (tCons (tUn mNeg (tOp (mPow) (tC (.int 10)) (tC (.int 45)))) (tCons (tC (.str "")) (tNil))))) (tNil)))))) (gName 4)) (R__law_bad_leaves_6 K A)
def R__law_bad_leaves_4 (K : PySem.W.Frag) (A : Adr) : TS := tSeq (tAsg (tOp (mAddG K) (mVar 4) (tLst (tCons (tTup (tCons (tC (.str "leaf")) (tCons (tOp (mAddG K) (mVar 1) (tOp (mShl) (tC (.int 1)) (mVar 0))) (tCons (tC (.str "")) (tNil))))) (tCons (tTup (tCons (tC (.str "leaf")) (tCons (mVar 1) (tCons (tTup (tCons (tC (.str "a")) (tNil))) (tNil))))) (tCons (tTup (tCons (tTup (tCons (tC (.str "bare")) (tNil))) (tNil))) (tCons (tTup (tCons (tC (.str "leaf")) (tCons (tCallX (sp__law_deep K A) (fun _ => E0) (tCons (mVar 1) (tNil))) (tCons (tC (.str "")) (tNil))))) (tNil))))))) (gName 4)) (R__law_bad_leaves_5 K A)
def R__law_bad_leaves_3 (K : PySem.W.Frag) (A : Adr) : TS := tSeq (tAsg (tOp (mAddG K) (mVar 4) (tLst (tCons (tTup (tCons (tC (.str "leaf")) (tCons (mVar 1) (tCons (tC (.int 7)) (tNil))))) (tCons (tTup (tCons (tC (.str "leaf")) (tCons (mVar 1) (tCons (tLst (tCons (tC (.str "a")) (tNil))) (tNil))))) (tCons (tLst (tCons (tC (.str "bare")) (tNil))) (tCons (tDNewA) (tCons (tTup (tCons (tC (.str "")) (tNil))) (tCons (tTup (tCons (tC .non) (tCons (mVar 1) (tCons (tC (.str "a")) (tNil))))) (tCons (tTup (tCons (tC (.str "bar")) (tNil))) (tNil)))))))))) (gName 4)) (R__law_bad_leaves_4 K A)
def R__law_bad_leaves_2 (K : PySem.W.Frag) (A : Adr) : TS := tSeq (tAsg (tOp (mAddG K) (mVar 4) (tLst (tCons (tTup (tCons (tC (.str "leaf")) (tCons (tC .non) (tCons (tC (.str "")) (tNil))))) (tCons (tTup (tCons (tC (.str "leaf")) (tCons (tC (.str "5")) (tCons (tC (.str "")) (tNil))))) (tCons (tTup (tCons (tC (.str "leaf")) (tCons (mVar 1) (tCons (tOp (mMulB) (tC (.str "a")) (tC (.int 61))) (tNil))))) (tCons (tTup (tCons (tC (.str "leaf")) (tCons (mVar 1) (tCons (tC .non) (tNil))))) (tNil))))))) (gName 4)) (R__law_bad_leaves_3 K A)
def R__law_bad_leaves_1 (K : PySem.W.Frag) (A : Adr) : TS := tSeq (tAsg (tOp (mAddG K) (mVar 4) (tLst (tCons (tTup (tCons (tC (.str "bare")) (tCons (tC (.int 0)) (tNil)))) (tCons (tC .non) (tCons (tC (.str "bare")) (tCons (tTup (tCons (tC (.str "leaf")) (tCons (tUn mNeg (tC (.int 1))) (tCons (tC (.str "a")) (tNil))))) (tCons (tTup (tCons (tC (.str "leaf")) (tCons (tOp (mShl) (tC (.int 1)) (mVar 0)) (tCons (tC (.str "a")) (tNil))))) (tCons (tTup (tCons (tC (.str "leaf")) (tCons (tC (.bl true)) (tCons (tC (.str "a")) (tNil))))) (tNil))))))))) (gName 4)) (R__law_bad_leaves_2 K A)
def T__law_bad_leaves (K : PySem.W.Frag) (A : Adr) : TS := tSeq (tAsg (tLst (tCons (tTup (tCons (tC (.str "leaf")) (tCons (mVar 1) (tNil)))) (tCons (tTup (tCons (tC (.str "leaf")) (tCons (mVar 1) (tCons (tC (.str "a")) (tCons (tC (.str "a")) (tNil)))))) (tCons (tLst (tCons (tC (.str "leaf")) (tCons (mVar 1) (tCons (tC (.str "a")) (tNil))))) (tCons (tTup (tCons (tC (.str "Leaf")) (tCons (mVar 1) (tCons (tC (.str "a")) (tNil))))) (tCons (tTup (tCons (tC (.str "cut")) (tCons (tC (.int 7)) (tNil)))) (tCons (tTup (tNil)) (tNil)))))))) (gName 4)) (tSeq (tAsg (tOp (mAddG K) (mVar 4) (tLst (tCons (tTup (tCons (tC (.str "bare")) (tCons (tC (.int 0)) (tNil)))) (tCons (tC .non) (tCons (tC (.str "bare")) (tCons (tTup (tCons (tC (.str "leaf")) (tCons (tUn mNeg (tC (.int 1))) (tCons (tC (.str "a")) (tNil))))) (tCons (tTup (tCons (tC (.str "leaf")) (tCons (tOp (mShl) (tC (.int 1)) (mVar 0)) (tCons (tC (.str "a")) (tNil))))) (tCons (tTup (tCons (tC (.str "leaf")) (tCons (tC (.bl true)) (tCons (tC (.str "a")) (tNil))))) (tNil))))))))) (gName 4)) (tSeq (tAsg (tOp (mAddG K) (mVar 4) (tLst (tCons (tTup (tCons (tC (.str "leaf")) (tCons (tC .non) (tCons (tC (.str "")) (tNil))))) (tCons (tTup (tCons (tC (.str "leaf")) (tCons (tC (.str "5")) (tCons (tC (.str "")) (tNil))))) (tCons (tTup (tCons (tC (.str "leaf")) (tCons (mVar 1) (tCons (tOp (mMulB) (tC (.str "a")) (tC (.int 61))) (tNil))))) (tCons (tTup (tCons (tC (.str "leaf")) (tCons (mVar 1) (tCons (tC .non) (tNil))))) (tNil))))))) (gName 4)) (tSeq (tAsg (tOp (mAddG K) (mVar 4) (tLst (tCons (tTup (tCons (tC (.str "leaf")) (tCons (mVar 1) (tCons (tC (.int 7)) (tNil))))) (tCons (tTup (tCons (tC (.str "leaf")) (tCons (mVar 1) (tCons (tLst (tCons (tC (.str "a")) (tNil))) (tNil))))) (tCons (tLst (tCons (tC (.str "bare")) (tNil))) (tCons (tDNewA) (tCons (tTup (tCons (tC (.str "")) (tNil))) (tCons (tTup (tCons (tC .non) (tCons (mVar 1) (tCons (tC (.str "a")) (tNil))))) (tCons (tTup (tCons (tC (.str "bar")) (tNil))) (tNil)))))))))) (gName 4)) (tSeq (tAsg (tOp (mAddG K) (mVar 4) (tLst (tCons (tTup (tCons (tC (.str "leaf")) (tCons (tOp (mAddG K) (mVar 1) (tOp (mShl) (tC (.int 1)) (mVar 0))) (tCons (tC (.str "")) (tNil))))) (tCons (tTup (tCons (tC (.str "leaf")) (tCons (mVar 1) (tCons (tTup (tCons (tC (.str "a")) (tNil))) (tNil))))) (tCons (tTup (tCons (tTup (tCons (tC (.str "bare")) (tNil))) (tNil))) (tCons (tTup (tCons (tC (.str "leaf")) (tCons (tCallX (sp__law_deep K A) (fun _ => E0) (tCons (mVar 1) (tNil))) (tCons (tC (.str "")) (tNil))))) (tNil))))))) (gName 4)) (tSeq (tAsg (tOp (mAddG K) (mVar 4) (tLst (tCons (tTup (tCons (tC (.str "leaf")) (tCons (tOp (mGt) (mVar 1) (tC (.int 0))) (tCons (tC (.str "a")) (tNil))))) (tCons (tTup (tCons (tC (.str "leaf")) (tCons (tOp (mMulB) (tOp (mPow) (tC (.int 10)) (tC (.int 45))) (tOp (mPow) (tC (.int 10)) (tC (.int 45)))) (tCons (tC (.str "")) (tNil))))) (tCons (tTup (tCons (tC (.str "leaf")) (tCons (tUn mNeg (tOp (mPow) (tC (.int 10)) (tC (.int 45)))) (tCons (tC (.str "")) (tNil))))) (tNil)))))) (gName 4)) (tSeq (mIfS (mTest (tOp (mGt) (mVar 2) (tC (.int 0)))) (tSeq (tAsg (tOp (mShl) (tC (.int 1)) (tOp (mSub) (tOp (mSub) (mVar 0) (tC (.int 1))) (tOp (mMod) (mVar 3) (mVar 2)))) (gName 5)) (tAsg (tOp (mAddG K) (mVar 4) (tLst (tCons (tTup (tCons (tC (.str "bare")) (tNil))) (tCons (tTup (tCons (tC (.str "leaf")) (tCons (tOp (mXor) (mVar 1) (mVar 5)) (tCons (tC (.str "a")) (tNil))))) (tCons (tTup (tCons (tC (.str "leaf")) (tCons (tOp (mXor) (mVar 1) (mVar 5)) (tCons (tC (.str "")) (tNil))))) (tNil)))))) (gName 4))) (tNext)) (tRet (mVar 4))))))))
def R__law_bad_forks_8 (K : PySem.W.Frag) (A : Adr) : TS := tRet (mVar 5)
def R__law_bad_forks_7 (K : PySem.W.Frag) (A : Adr) : TS := tSeq (mIfS (mTest (tOp (mLt) (tOp (mAddG K) (mVar 2) (tC (.int 1))) (mVar 0))) (tSeq (tAsg (tOp (mAddG K) (tOp (mAddG K) (mVar 2) (tC (.int 1))) (tOp (mMod) (mVar 3) (tOp (mSub) (tOp (mSub) (mVar 0) (tC (.int 1))) (mVar 2)))) (gName 8)) (tSeq (tAsg (tOp (mShr) (mVar 1) (tOp (mSub) (mVar 0) (mVar 8))) (gName 9)) (tSeq (tAsg (tOp (mXor) (mVar 9) (tC (.int 1))) (gName 10)) (tSeq (tAsg (tOp (mAddG K) (mVar 5) (tLst (tCons (tTup (tCons (tC (.str "fork")) (tCons (mVar 8) (tCons (tOp (mGt) (mVar 10) (tC (.int 0))) (tCons (tC (.int 1)) (tCons (tC (.int 2)) (tNil))))))) (tCons (tTup (tCons (tC (.str "fork")) (tCons (mVar 8) (tCons (mVar 6) (tCons (tC (.int 1)) (tCons (tC (.int 2)) (tNil))))))) (tCons (tTup (tCons (tC (.str "fork")) (tCons (mVar 8) (tCons (mVar 10) (tCons (mVar 6) (tCons (tC (.int 2)) (tNil))))))) (tNil)))))) (gName 5)) (tSeq (tAsg (tOp (mAddG K) (mVar 5) (tLst (tCons (tTup (tCons (tC (.str "fork")) (tCons (mVar 8) (tCons (mVar 10) (tCons (tOp (mPow) (tC (.int 10)) (tC (.int 60))) (tCons (tC (.int 2)) (tNil))))))) (tCons (tTup (tCons (tC (.str "fork")) (tCons (mVar 8) (tCons (mVar 10) (tCons (tC (.bl true)) (tCons (tC (.int 2)) (tNil))))))) (tNil))))) (gName 5)) (tSeq (tAsg (tOp (mAddG K) (mVar 5) (tLst (tCons (tTup (tCons (tC (.str "fork")) (tCons (mVar 8) (tCons (mVar 10) (tCons (tLst (tCons (tC (.int 1)) (tNil))) (tCons (tC (.int 2)) (tNil))))))) (tNil)))) (gName 5)) (tSeq (tAsg (tOp (mAddG K) (mVar 5) (tLst (tCons (tTup (tCons (tC (.str "fork")) (tCons (mVar 8) (tCons (mVar 10) (tCons (tC (.int 1)) (tCons (tUn mNeg (tC (.int 1))) (tNil))))))) (tCons (tTup (tCons (tC (.str "fork")) (tCons (mVar 8) (tCons (mVar 10) (tCons (tC (.int 1)) (tCons (tC .non) (tNil))))))) (tCons (tTup (tCons (tC (.str "fork")) (tCons (mVar 8) (tCons (mVar 10) (tCons (tC (.int 1)) (tCons (tTup (tCons (tC (.int 2)) (tNil))) (tNil))))))) (tNil)))))) (gName 5)) (tSeq (tAsg (tOp (mAddG K) (mVar 5) (tLst (tCons (tTup (tCons (tC (.str "fork")) (tCons (mVar 8) (tCons (mVar 9) (tCons (tC (.int 1)) (tCons (tC (.int 2)) (tNil))))))) (tCons (tTup (tCons (tC (.str "fork")) (tCons (mVar 8) (tCons (tUn mNeg (tC (.int 1))) (tCons (tC (.int 1)) (tCons (tC (.int 2)) (tNil))))))) (tCons (tTup (tCons (tC (.str "fork")) (tCons (mVar 8) (tCons (mVar 10) (tCons (tC (.int 1)) (tNil)))))) (tNil)))))) (gName 5)) (tSeq (tAsg (tOp (mAddG K) (mVar 5) (tLst (tCons (tTup (tCons (tC (.str "fork")) (tCons (mVar 8) (tCons (tOp (mAddG K) (mVar 10) (tOp (mShl) (tC (.int 1)) (mVar 8))) (tCons (tC (.int 1)) (tCons (tC (.int 2)) (tNil))))))) (tCons (tTup (tCons (tC (.str "fork")) (tCons (mVar 8) (tCons (mVar 10) (tCons (tC (.int 1)) (tCons (tC (.int 2)) (tCons (tC (.int 3)) (tNil)))))))) (tNil))))) (gName 5)) (tSeq (tAsg (tOp (mAddG K) (mVar 5) (tLst (tCons (tTup (tCons (tC (.str "fork")) (tCons (mVar 8) (tCons (mVar 10) (tCons (tUn mNeg (tC (.int 1))) (tCons (tC (.int 2)) (tNil))))))) (tCons (tTup (tCons (tC (.str "fork")) (tCons (mVar 8) (tCons (mVar 10) (tCons (tC (.int 1)) (tCons (tOp (mPow) (tC (.int 10)) (tC (.int 60))) (tNil))))))) (tCons (tLst (tCons (tC (.str "fork")) (tCons (mVar 8) (tCons (mVar 10) (tCons (tC (.int 1)) (tCons (tC (.int 2)) (tNil))))))) (tNil)))))) (gName 5)) (tSeq (tAsg (tOp (mAddG K) (mVar 5) (tLst (tCons (tTup (tCons (tC (.str "fork")) (tCons (mVar 8) (tCons (mVar 10) (tCons (tC .non) (tCons (tC (.int 2)) (tNil))))))) (tCons (tTup (tCons (tC (.str "fork")) (tCons (mVar 8) (tCons (mVar 10) (tCons (tC (.int 1)) (tCons (tC (.bl true)) (tNil))))))) (tCons (tTup (tCons (tC (.str "fork")) (tCons (mVar 8) (tCons (tC .non) (tCons (tC (.int 1)) (tCons (tC (.int 2)) (tNil))))))) (tNil)))))) (gName 5)) (tSeq (tAsg (tOp (mAddG K) (mVar 5) (tLst (tCons (tTup (tCons (tC (.str "fork")) (tCons (mVar 8) (tCons (tC (.str "1")) (tCons (tC (.int 1)) (tCons (tC (.int 2)) (tNil))))))) (tCons (tTup (tCons (tC (.str "fork")) (tCons (tCB (kStr) (tCons (mVar 8) (tNil))) (tCons (mVar 10) (tCons (tC (.int 1)) (tCons (tC (.int 2)) (tNil))))))) (tCons (tTup (tCons (tC (.str "Fork")) (tCons (mVar 8) (tCons (mVar 10) (tCons (tC (.int 1)) (tCons (tC (.int 2)) (tNil))))))) (tNil)))))) (gName 5)) (mIfS (mTest (tOp (mGt) (mVar 2) (tC (.int 0)))) (tSeq (tAsg (tOp (mShl) (tC (.int 1)) (tOp (mSub) (tOp (mSub) (mVar 8) (tC (.int 1))) (tOp (mMod) (mVar 3) (mVar 2)))) (gName 11)) (tAsg (tOp (mAddG K) (mVar 5) (tLst (tCons (tTup (tCons (tC (.str "fork")) (tCons (mVar 8) (tCons (tOp (mXor) (mVar 10) (mVar 11)) (tCons (tC (.int 1)) (tCons (tC (.int 2)) (tNil))))))) (tCons (tTup (tCons (tC (.str "fork")) (tCons (mVar 8) (tCons (tOp (mXor) (mVar 10) (mVar 11)) (tCons (tC (.str "a")) (tCons (tC (.str "b")) (tNil))))))) (tNil))))) (gName 5))) (tNext)))))))))))))) (tNext)) (R__law_bad_forks_8 K A)
def R__law_bad_forks_6 (K : PySem.W.Frag) (A : Adr) : TS := tSeq (tAsg (tOp (mAddG K) (mVar 5) (tLst (tCons (tTup (tCons (tC (.str "fork")) (tCons (tOp (mAddG K) (mVar 0) (mVar 7)) (tCons (tOp (mXor) (tOp (mShl) (mVar 1) (mVar 7)) (tC (.int 1))) (tCons (tC (.int 1)) (tCons (tC (.int 2)) (tNil))))))) (tCons (tTup (tCons (tC (.str "fork")) (tCons (tOp (mAddG K) (mVar 0) (mVar 7)) (tCons (tC (.int 0)) (tCons (tC (.int 1)) (tCons (tC (.int 2)) (tNil))))))) (tNil))))) (gName 5)) (R__law_bad_forks_7 K A)
def R__law_bad_forks_5 (K : PySem.W.Frag) (A : Adr) : TS := tSeq (tAsg (tOp (mAddG K) (tC (.int 1)) (tOp (mMod) (mVar 3) (tC (.int 30)))) (gName 7)) (R__law_bad_forks_6 K A)
def R__law_bad_forks_4 (K : PySem.W.Frag) (A : Adr) : TS := tSeq (tAsg (tOp (mAddG K) (mVar 5) (tLst (tCons (tTup (tCons (tC (.str "fork")) (tCons (mVar 6) (tCons (mVar 4) (tCons (tC (.int 1)) (tCons (tC (.int 2)) (tNil))))))) (tCons (tTup (tCons (tC (.str "fork")) (tCons (tUn mNeg (mVar 6)) (tCons (mVar 4) (tCons (tC (.int 1)) (tCons (tC (.int 2)) (tNil))))))) (tCons (tTup (tCons (tC (.str "fork")) (tCons (mVar 0) (tCons (mVar 6) (tCons (tC (.int 1)) (tCons (tC (.int 2)) (tNil))))))) (tNil)))))) (gName 5)) (R__law_bad_forks_5 K A)
def R__law_bad_forks_3 (K : PySem.W.Frag) (A : Adr) : TS := tSeq (tAsg (tOp (mMulB) (tOp (mPow) (tC (.int 10)) (tC (.int 45))) (tOp (mPow) (tC (.int 10)) (tC (.int 45)))) (gName 6)) (R__law_bad_forks_4 K A)
def R__law_bad_forks_2 (K : PySem.W.Frag) (A : Adr) : TS := tSeq (tAsg (tOp (mAddG K) (mVar 5) (tLst (tCons (tTup (tCons (tC (.str "fork")) (tCons (tC (.bl true)) (tCons (tC (.int 0)) (tCons (tC (.int 1)) (tCons (tC (.int 2)) (tNil))))))) (tCons (tTup (tCons (tC (.str "fork")) (tCons (tUn mNeg (tC (.int 1))) (tCons (tC (.int 0)) (tCons (tC (.int 1)) (tCons (tC (.int 2)) (tNil))))))) (tCons (tTup (tCons (tC (.str "fork")) (tNil))) (tCons (tTup (tCons (tC (.str "fork")) (tCons (tC .non) (tCons (tC (.int 0)) (tCons (tC (.int 1)) (tCons (tC (.int 2)) (tNil))))))) (tNil))))))) (gName 5)) (R__law_bad_forks_3 K A)
def R__law_bad_forks_1 (K : PySem.W.Frag) (A : Adr) : TS := tSeq (tAsg (tLst (tCons (tTup (tCons (tC (.str "fork")) (tCons (mVar 2) (tCons (mVar 4) (tCons (tC (.int 1)) (tCons (tC (.int 2)) (tNil))))))) (tCons (tTup (tCons (tC (.str "fork")) (tCons (mVar 2) (tCons (tOp (mXor) (mVar 4) (tC (.int 1))) (tCons (tC (.int 1)) (tCons (tC (.int 2)) (tNil))))))) (tCons (tTup (tCons (tC (.str "fork")) (tCons (mVar 0) (tCons (tOp (mXor) (mVar 1) (tC (.int 1))) (tCons (tC (.int 1)) (tCons (tC (.int 2)) (tNil))))))) (tNil))))) (gName 5)) (R__law_bad_forks_2 K A)
def T__law_bad_forks (K : PySem.W.Frag) (A : Adr) : TS := tSeq (tAsg (tOp (mShr) (mVar 1) (tOp (mSub) (mVar 0) (mVar 2))) (gName 4)) (tSeq (tAsg (tLst (tCons (tTup (tCons (tC (.str "fork")) (tCons (mVar 2) (tCons (mVar 4) (tCons (tC (.int 1)) (tCons (tC (.int 2)) (tNil))))))) (tCons (tTup (tCons (tC (.str "fork")) (tCons (mVar 2) (tCons (tOp (mXor) (mVar 4) (tC (.int 1))) (tCons (tC (.int 1)) (tCons (tC (.int 2)) (tNil))))))) (tCons (tTup (tCons (tC (.str "fork")) (tCons (mVar 0) (tCons (tOp (mXor) (mVar 1) (tC (.int 1))) (tCons (tC (.int 1)) (tCons (tC (.int 2)) (tNil))))))) (tNil))))) (gName 5)) (tSeq (tAsg (tOp (mAddG K) (mVar 5) (tLst (tCons (tTup (tCons (tC (.str "fork")) (tCons (tC (.bl true)) (tCons (tC (.int 0)) (tCons (tC (.int 1)) (tCons (tC (.int 2)) (tNil))))))) (tCons (tTup (tCons (tC (.str "fork")) (tCons (tUn mNeg (tC (.int 1))) (tCons (tC (.int 0)) (tCons (tC (.int 1)) (tCons (tC (.int 2)) (tNil))))))) (tCons (tTup (tCons (tC (.str "fork")) (tNil))) (tCons (tTup (tCons (tC (.str "fork")) (tCons (tC .non) (tCons (tC (.int 0)) (tCons (tC (.int 1)) (tCons (tC (.int 2)) (tNil))))))) (tNil))))))) (gName 5)) (tSeq (tAsg (tOp (mMulB) (tOp (mPow) (tC (.int 10)) (tC (.int 45))) (tOp (mPow) (tC (.int 10)) (tC (.int 45)))) (gName 6)) (tSeq (tAsg (tOp (mAddG K) (mVar 5) (tLst (tCons (tTup (tCons (tC (.str "fork")) (tCons (mVar 6) (tCons (mVar 4) (tCons (tC (.int 1)) (tCons (tC (.int 2)) (tNil))))))) (tCons (tTup (tCons (tC (.str "fork")) (tCons (tUn mNeg (mVar 6)) (tCons (mVar 4) (tCons (tC (.int 1)) (tCons (tC (.int 2)) (tNil))))))) (tCons (tTup (tCons (tC (.str "fork")) (tCons (mVar 0) (tCons (mVar 6) (tCons (tC (.int 1)) (tCons (tC (.int 2)) (tNil))))))) (tNil)))))) (gName 5)) (tSeq (tAsg (tOp (mAddG K) (tC (.int 1)) (tOp (mMod) (mVar 3) (tC (.int 30)))) (gName 7)) (tSeq (tAsg (tOp (mAddG K) (mVar 5) (tLst (tCons (tTup (tCons (tC (.str "fork")) (tCons (tOp (mAddG K) (mVar 0) (mVar 7)) (tCons (tOp (mXor) (tOp (mShl) (mVar 1) (mVar 7)) (tC (.int 1))) (tCons (tC (.int 1)) (tCons (tC (.int 2)) (tNil))))))) (tCons (tTup (tCons (tC (.str "fork")) (tCons (tOp (mAddG K) (mVar 0) (mVar 7)) (tCons (tC (.int 0)) (tCons (tC (.int 1)) (tCons (tC (.int 2)) (tNil))))))) (tNil))))) (gName 5)) (tSeq (mIfS (mTest (tOp (mLt) (tOp (mAddG K) (mVar 2) (tC (.int 1))) (mVar 0))) (tSeq (tAsg (tOp (mAddG K) (tOp (mAddG K) (mVar 2) (tC (.int 1))) (tOp (mMod) (mVar 3) (tOp (mSub) (tOp (mSub) (mVar 0) (tC (.int 1))) (mVar 2)))) (gName 8)) (tSeq (tAsg (tOp (mShr) (mVar 1) (tOp (mSub) (mVar 0) (mVar 8))) (gName 9)) (tSeq (tAsg (tOp (mXor) (mVar 9) (tC (.int 1))) (gName 10)) (tSeq (tAsg (tOp (mAddG K) (mVar 5) (tLst (tCons (tTup (tCons (tC (.str "fork")) (tCons (mVar 8) (tCons (tOp (mGt) (mVar 10) (tC (.int 0))) (tCons (tC (.int 1)) (tCons (tC (.int 2)) (tNil))))))) (tCons (tTup (tCons (tC (.str "fork")) (tCons (mVar 8) (tCons (mVar 6) (tCons (tC (.int 1)) (tCons (tC (.int 2)) (tNil))))))) (tCons (tTup (tCons (tC (.str "fork")) (tCons (mVar 8) (tCons (mVar 10) (tCons (mVar 6) (tCons (tC (.int 2)) (tNil))))))) (tNil)))))) (gName 5)) (tSeq (tAsg (tOp (mAddG K) (mVar 5) (tLst (tCons (tTup (tCons (tC (.str "fork")) (tCons (mVar 8) (tCons (mVar 10) (tCons (tOp (mPow) (tC (.int 10)) (tC (.int 60))) (tCons (tC (.int 2)) (tNil))))))) (tCons (tTup (tCons (tC (.str "fork")) (tCons (mVar 8) (tCons (mVar 10) (tCons (tC (.bl true)) (tCons (tC (.int 2)) (tNil))))))) (tNil))))) (gName 5)) (tSeq (tAsg (tOp (mAddG K) (mVar 5) (tLst (tCons (tTup (tCons (tC (.str "fork")) (tCons (mVar 8) (tCons (mVar 10) (tCons (tLst (tCons (tC (.int 1)) (tNil))) (tCons (tC (.int 2)) (tNil))))))) (tNil)))) (gName 5)) (tSeq (tAsg (tOp (mAddG K) (mVar 5) (tLst (tCons (tTup (tCons (tC (.str "fork")) (tCons (mVar 8) (tCons (mVar 10) (tCons (tC (.int 1)) (tCons (tUn mNeg (tC (.int 1))) (tNil))))))) (tCons (tTup (tCons (tC (.str "fork")) (tCons (mVar 8) (tCons (mVar 10) (tCons (tC (.int 1)) (tCons (tC .non) (tNil))))))) (tCons (tTup (tCons (tC (.str "fork")) (tCons (mVar 8) (tCons (mVar 10) (tCons (tC (.int 1)) (tCons (tTup (tCons (tC (.int 2)) (tNil))) (tNil))))))) (tNil)))))) (gName 5)) (tSeq (tAsg (tOp (mAddG K) (mVar 5) (tLst (tCons (tTup (tCons (tC (.str "fork")) (tCons (mVar 8) (tCons (mVar 9) (tCons (tC (.int 1)) (tCons (tC (.int 2)) (tNil))))))) (tCons (tTup (tCons (tC (.str "fork")) (tCons (mVar 8) (tCons (tUn mNeg (tC (.int 1))) (tCons (tC (.int 1)) (tCons (tC (.int 2)) (tNil))))))) (tCons (tTup (tCons (tC (.str "fork")) (tCons (mVar 8) (tCons (mVar 10) (tCons (tC (.int 1)) (tNil)))))) (tNil)))))) (gName 5)) (tSeq (tAsg (tOp (mAddG K) (mVar 5) (tLst (tCons (tTup (tCons (tC (.str "fork")) (tCons (mVar 8) (tCons (tOp (mAddG K) (mVar 10) (tOp (mShl) (tC (.int 1)) (mVar 8))) (tCons (tC (.int 1)) (tCons (tC (.int 2)) (tNil))))))) (tCons (tTup (tCons (tC (.str "fork")) (tCons (mVar 8) (tCons (mVar 10) (tCons (tC (.int 1)) (tCons (tC (.int 2)) (tCons (tC (.int 3)) (tNil)))))))) (tNil))))) (gName 5)) (tSeq (tAsg (tOp (mAddG K) (mVar 5) (tLst (tCons (tTup (tCons (tC (.str "fork")) (tCons (mVar 8) (tCons (mVar 10) (tCons (tUn mNeg (tC (.int 1))) (tCons (tC (.int 2)) (tNil))))))) (tCons (tTup (tCons (tC (.str "fork")) (tCons (mVar 8) (tCons (mVar 10) (tCons (tC (.int 1)) (tCons (tOp (mPow) (tC (.int 10)) (tC (.int 60))) (tNil))))))) (tCons (tLst (tCons (tC (.str "fork")) (tCons (mVar 8) (tCons (mVar 10) (tCons (tC (.int 1)) (tCons (tC (.int 2)) (tNil))))))) (tNil)))))) (gName 5)) (tSeq (tAsg (tOp (mAddG K) (mVar 5) (tLst (tCons (tTup (tCons (tC (.str "fork")) (tCons (mVar 8) (tCons (mVar 10) (tCons (tC .non) (tCons (tC (.int 2)) (tNil))))))) (tCons (tTup (tCons (tC (.str "fork")) (tCons (mVar 8) (tCons (mVar 10) (tCons (tC (.int 1)) (tCons (tC (.bl true)) (tNil))))))) (tCons (tTup (tCons (tC (.str "fork")) (tCons (mVar 8) (tCons (tC .non) (tCons (tC (.int 1)) (tCons (tC (.int 2)) (tNil))))))) (tNil)))))) (gName 5)) (tSeq (tAsg (tOp (mAddG K) (mVar 5) (tLst (tCons (tTup (tCons (tC (.str "fork")) (tCons (mVar 8) (tCons (tC (.str "1")) (tCons (tC (.int 1)) (tCons (tC (.int 2)) (tNil))))))) (tCons (tTup (tCons (tC (.str "fork")) (tCons (tCB (kStr) (tCons (mVar 8) (tNil))) (tCons (mVar 10) (tCons (tC (.int 1)) (tCons (tC (.int 2)) (tNil))))))) (tCons (tTup (tCons (tC (.str "Fork")) (tCons (mVar 8) (tCons (mVar 10) (tCons (tC (.int 1)) (tCons (tC (.int 2)) (tNil))))))) (tNil)))))) (gName 5)) (mIfS (mTest (tOp (mGt) (mVar 2) (tC (.int 0)))) (tSeq (tAsg (tOp (mShl) (tC (.int 1)) (tOp (mSub) (tOp (mSub) (mVar 8) (tC (.int 1))) (tOp (mMod) (mVar 3) (mVar 2)))) (gName 11)) (tAsg (tOp (mAddG K) (mVar 5) (tLst (tCons (tTup (tCons (tC (.str "fork")) (tCons (mVar 8) (tCons (tOp (mXor) (mVar 10) (mVar 11)) (tCons (tC (.int 1)) (tCons (tC (.int 2)) (tNil))))))) (tCons (tTup (tCons (tC (.str "fork")) (tCons (mVar 8) (tCons (tOp (mXor) (mVar 10) (mVar 11)) (tCons (tC (.str "a")) (tCons (tC (.str "b")) (tNil))))))) (tNil))))) (gName 5))) (tNext)))))))))))))) (tNext)) (tRet (mVar 5)))))))))
def R__law_bad_7 (K : PySem.W.Frag) (A : Adr) : TS := tRet (tOp (rIxA K) (mVar 7) (tOp (mMod) (mVar 6) (tCB (kLenA K) (tCons (mVar 7) (tNil)))))
def R__law_bad_6 (K : PySem.W.Frag) (A : Adr) : TS := tSeq (tAsg (tOp (mAddG K) (mVar 7) (tLst (tCons (tTup (tCons (mVar 3) (tCons (tTup (tCons (mVar 4) (tNil))) (tNil)))) (tCons (tTup (tCons (tTup (tCons (mVar 3) (tNil))) (tCons (mVar 4) (tNil)))) (tCons (tCallX (sp__law_deep K A) (fun _ => E0) (tCons (mVar 4) (tNil))) (tCons (tTup (tCons (tC (.str "")) (tCons (mVar 4) (tNil)))) (tCons (tTup (tCons (tDNewA) (tCons (mVar 4) (tNil)))) (tNil)))))))) (gName 7)) (R__law_bad_7 K A)
def R__law_bad_5 (K : PySem.W.Frag) (A : Adr) : TS := tSeq (tAsg (tOp (mAddG K) (mVar 7) (tLst (tCons (tTup (tNil)) (tCons (tLst (tNil)) (tCons (tDNewA) (tCons (tTup (tCons (tC (.str "bare")) (tNil))) (tCons (mVar 2) (tCons (tC (.str "leaf")) (tCons (tTup (tCons (mVar 4) (tCons (mVar 3) (tNil)))) (tCons (mVar 3) (tCons (mVar 4) (tCons (tTup (tCons (tC .non) (tCons (mVar 4) (tNil)))) (tCons (tTup (tCons (mVar 3) (tCons (tC .non) (tNil)))) (tNil)))))))))))))) (gName 7)) (R__law_bad_6 K A)
def R__law_bad_4 (K : PySem.W.Frag) (A : Adr) : TS := tSeq (tAsg (tLst (tCons (tLst (tCons (mVar 3) (tCons (mVar 4) (tNil)))) (tCons (tTup (tCons (mVar 3) (tNil))) (tCons (tTup (tCons (mVar 3) (tCons (mVar 4) (tCons (mVar 4) (tNil))))) (tCons (tTup (tCons (tCB (kList K) (tCons (mVar 3) (tNil))) (tCons (mVar 4) (tNil)))) (tCons (tTup (tCons (mVar 3) (tCons (tCB (kList K) (tCons (mVar 4) (tNil))) (tNil)))) (tCons (tC .non) (tCons (tC (.str "")) (tCons (tC (.int 0)) (tCons (tC (.bl true)) (tNil))))))))))) (gName 7)) (R__law_bad_5 K A)
def R__law_bad_3 (K : PySem.W.Frag) (A : Adr) : TS := tSeq (mIfS (mTest (tOp (mEqC K) (tOp (mMod) (mVar 0) (tC (.int 4))) (tC (.int 2)))) (tSeq (tAsg (tCallX (sp__law_bad_forks K A) (fun _ => E0) (tCons (mVar 1) (tCons (mVar 2) (tCons (mVar 5) (tCons (tOp (mFdiv) (mVar 6) (tC (.int 64))) (tNil)))))) (gName 7)) (tRet (tTup (tCons (mVar 3) (tCons (tOp (rIxA K) (mVar 7) (tOp (mMod) (mVar 6) (tCB (kLenA K) (tCons (mVar 7) (tNil))))) (tNil)))))) (tNext)) (R__law_bad_4 K A)
def R__law_bad_2 (K : PySem.W.Frag) (A : Adr) : TS := tSeq (mIfS (mTest (tOp (mEqC K) (tOp (mMod) (mVar 0) (tC (.int 4))) (tC (.int 1)))) (tSeq (tAsg (tCallX (sp__law_bad_leaves K A) (fun _ => E0) (tCons (mVar 1) (tCons (mVar 2) (tCons (mVar 5) (tCons (tOp (mFdiv) (mVar 6) (tC (.int 64))) (tNil)))))) (gName 7)) (tRet (tTup (tCons (mVar 3) (tCons (tOp (rIxA K) (mVar 7) (tOp (mMod) (mVar 6) (tCB (kLenA K) (tCons (mVar 7) (tNil))))) (tNil)))))) (tNext)) (R__law_bad_3 K A)
def R__law_bad_1 (K : PySem.W.Frag) (A : Adr) : TS := tSeq (mIfS (mAnd (mTest (tOp (mEqC K) (tOp (mMod) (mVar 0) (tC (.int 4))) (tC (.int 0)))) (mTest (tOp (mNeB K) (mVar 3) (tTup (tNil))))) (tRet (tTup (tCons (tCallX (sp__law_bad_steps K A) (fun _ => E0) (tCons (mVar 6) (tCons (mVar 3) (tCons (mVar 1) (tNil))))) (tCons (mVar 4) (tNil))))) (tNext)) (R__law_bad_2 K A)
def T__law_bad (K : PySem.W.Frag) (A : Adr) : TS := tSeq (tAsg (tOp (mFdiv) (mVar 0) (tC (.int 4))) (gName 6)) (tSeq (mIfS (mAnd (mTest (tOp (mEqC K) (tOp (mMod) (mVar 0) (tC (.int 4))) (tC (.int 0)))) (mTest (tOp (mNeB K) (mVar 3) (tTup (tNil))))) (tRet (tTup (tCons (tCallX (sp__law_bad_steps K A) (fun _ => E0) (tCons (mVar 6) (tCons (mVar 3) (tCons (mVar 1) (tNil))))) (tCons (mVar 4) (tNil))))) (tNext)) (tSeq (mIfS (mTest (tOp (mEqC K) (tOp (mMod) (mVar 0) (tC (.int 4))) (tC (.int 1)))) (tSeq (tAsg (tCallX (sp__law_bad_leaves K A) (fun _ => E0) (tCons (mVar 1) (tCons (mVar 2) (tCons (mVar 5) (tCons (tOp (mFdiv) (mVar 6) (tC (.int 64))) (tNil)))))) (gName 7)) (tRet (tTup (tCons (mVar 3) (tCons (tOp (rIxA K) (mVar 7) (tOp (mMod) (mVar 6) (tCB (kLenA K) (tCons (mVar 7) (tNil))))) (tNil)))))) (tNext)) (tSeq (mIfS (mTest (tOp (mEqC K) (tOp (mMod) (mVar 0) (tC (.int 4))) (tC (.int 2)))) (tSeq (tAsg (tCallX (sp__law_bad_forks K A) (fun _ => E0) (tCons (mVar 1) (tCons (mVar 2) (tCons (mVar 5) (tCons (tOp (mFdiv) (mVar 6) (tC (.int 64))) (tNil)))))) (gName 7)) (tRet (tTup (tCons (mVar 3) (tCons (tOp (rIxA K) (mVar 7) (tOp (mMod) (mVar 6) (tCB (kLenA K) (tCons (mVar 7) (tNil))))) (tNil)))))) (tNext)) (tSeq (tAsg (tLst (tCons (tLst (tCons (mVar 3) (tCons (mVar 4) (tNil)))) (tCons (tTup (tCons (mVar 3) (tNil))) (tCons (tTup (tCons (mVar 3) (tCons (mVar 4) (tCons (mVar 4) (tNil))))) (tCons (tTup (tCons (tCB (kList K) (tCons (mVar 3) (tNil))) (tCons (mVar 4) (tNil)))) (tCons (tTup (tCons (mVar 3) (tCons (tCB (kList K) (tCons (mVar 4) (tNil))) (tNil)))) (tCons (tC .non) (tCons (tC (.str "")) (tCons (tC (.int 0)) (tCons (tC (.bl true)) (tNil))))))))))) (gName 7)) (tSeq (tAsg (tOp (mAddG K) (mVar 7) (tLst (tCons (tTup (tNil)) (tCons (tLst (tNil)) (tCons (tDNewA) (tCons (tTup (tCons (tC (.str "bare")) (tNil))) (tCons (mVar 2) (tCons (tC (.str "leaf")) (tCons (tTup (tCons (mVar 4) (tCons (mVar 3) (tNil)))) (tCons (mVar 3) (tCons (mVar 4) (tCons (tTup (tCons (tC .non) (tCons (mVar 4) (tNil)))) (tCons (tTup (tCons (mVar 3) (tCons (tC .non) (tNil)))) (tNil)))))))))))))) (gName 7)) (tSeq (tAsg (tOp (mAddG K) (mVar 7) (tLst (tCons (tTup (tCons (mVar 3) (tCons (tTup (tCons (mVar 4) (tNil))) (tNil)))) (tCons (tTup (tCons (tTup (tCons (mVar 3) (tNil))) (tCons (mVar 4) (tNil)))) (tCons (tCallX (sp__law_deep K A) (fun _ => E0) (tCons (mVar 4) (tNil))) (tCons (tTup (tCons (tC (.str "")) (tCons (mVar 4) (tNil)))) (tCons (tTup (tCons (tDNewA) (tCons (mVar 4) (tNil)))) (tNil)))))))) (gName 7)) (tRet (tOp (rIxA K) (mVar 7) (tOp (mMod) (mVar 6) (tCB (kLenA K) (tCons (mVar 7) (tNil))))))))))))
def R__law_good_4 (K : PySem.W.Frag) (A : Adr) : TS := tRet (tTup (tCons (mVar 2) (tCons (tOp (rIxA K) (mVar 5) (tOp (mMod) (tOp (mFdiv) (mVar 4) (tC (.int 7))) (tCB (kLenA K) (tCons (mVar 5) (tNil))))) (tNil))))
def R__law_good_3 (K : PySem.W.Frag) (A : Adr) : TS := tSeq (mIfS (mTest (tOp (mLt) (tOp (mAddG K) (mVar 3) (tC (.int 1))) (mVar 0))) (tSeq (tAsg (tOp (mAddG K) (tOp (mAddG K) (mVar 3) (tC (.int 1))) (tOp (mMod) (mVar 4) (tOp (mSub) (tOp (mSub) (mVar 0) (tC (.int 1))) (mVar 3)))) (gName 6)) (tSeq (tDrop (tBM K "list" rAppend (mVar 5) (tCons (tTup (tCons (tC (.str "fork")) (tCons (mVar 6) (tCons (tOp (mXor) (tOp (mShr) (mVar 1) (tOp (mSub) (mVar 0) (mVar 6))) (tC (.int 1))) (tCons (tC (.int 0)) (tCons (tOp (mSub) (tOp (mPow) (tC (.int 10)) (tC (.int 60))) (tC (.int 1))) (tNil))))))) (tNil)))) (tDrop (tBM K "list" rAppend (mVar 5) (tCons (tTup (tCons (tC (.str "fork")) (tCons (mVar 6) (tCons (tOp (mXor) (tOp (mShr) (mVar 1) (tOp (mSub) (mVar 0) (mVar 6))) (tC (.int 1))) (tCons (tC (.str "")) (tCons (tC (.str "x")) (tNil))))))) (tNil)))))) (tNext)) (R__law_good_4 K A)
def R__law_good_2 (K : PySem.W.Frag) (A : Adr) : TS := tSeq (mIfS (mTest (tOp (mLt) (mVar 3) (mVar 0))) (tDrop (tBM K "list" rAppend (mVar 5) (tCons (tTup (tCons (tC (.str "leaf")) (tCons (tOp (mXor) (mVar 1) (tOp (mShl) (tC (.int 1)) (tOp (mMod) (mVar 4) (tOp (mSub) (mVar 0) (mVar 3))))) (tCons (tC (.str "b")) (tNil))))) (tNil)))) (tNext)) (R__law_good_3 K A)
def R__law_good_1 (K : PySem.W.Frag) (A : Adr) : TS := tSeq (mIfS (mTest (tOp (mEqC K) (mVar 2) (tTup (tNil)))) (tDrop (tBM K "list" rAppend (mVar 5) (tCons (tTup (tCons (tC (.str "bare")) (tNil))) (tNil)))) (tNext)) (R__law_good_2 K A)
def R__law_good_0 (K : PySem.W.Frag) (A : Adr) : TS := tSeq (tAsg (tLst (tCons (tTup (tCons (tC (.str "leaf")) (tCons (mVar 1) (tCons (tC (.str "")) (tNil))))) (tCons (tTup (tCons (tC (.str "leaf")) (tCons (mVar 1) (tCons (tOp (mMulB) (tC (.str "a")) (tC (.int 60))) (tNil))))) (tCons (tTup (tCons (tC (.str "leaf")) (tCons (mVar 1) (tCons (tCallX (sp__law_text K A) (fun _ => E0) (tCons (mVar 4) (tNil))) (tNil))))) (tNil))))) (gName 5)) (R__law_good_1 K A)
def T__law_good (K : PySem.W.Frag) (A : Adr) : TS := tSeq (tAsg (tLst (tCons (tTup (tCons (tC (.str "leaf")) (tCons (mVar 1) (tCons (tC (.str "")) (tNil))))) (tCons (tTup (tCons (tC (.str "leaf")) (tCons (mVar 1) (tCons (tOp (mMulB) (tC (.str "a")) (tC (.int 60))) (tNil))))) (tCons (tTup (tCons (tC (.str "leaf")) (tCons (mVar 1) (tCons (tCallX (sp__law_text K A) (fun _ => E0) (tCons (mVar 4) (tNil))) (tNil))))) (tNil))))) (gName 5)) (tSeq (mIfS (mTest (tOp (mEqC K) (mVar 2) (tTup (tNil)))) (tDrop (tBM K "list" rAppend (mVar 5) (tCons (tTup (tCons (tC (.str "bare")) (tNil))) (tNil)))) (tNext)) (tSeq (mIfS (mTest (tOp (mLt) (mVar 3) (mVar 0))) (tDrop (tBM K "list" rAppend (mVar 5) (tCons (tTup (tCons (tC (.str "leaf")) (tCons (tOp (mXor) (mVar 1) (tOp (mShl) (tC (.int 1)) (tOp (mMod) (mVar 4) (tOp (mSub) (mVar 0) (mVar 3))))) (tCons (tC (.str "b")) (tNil))))) (tNil)))) (tNext)) (tSeq (mIfS (mTest (tOp (mLt) (tOp (mAddG K) (mVar 3) (tC (.int 1))) (mVar 0))) (tSeq (tAsg (tOp (mAddG K) (tOp (mAddG K) (mVar 3) (tC (.int 1))) (tOp (mMod) (mVar 4) (tOp (mSub) (tOp (mSub) (mVar 0) (tC (.int 1))) (mVar 3)))) (gName 6)) (tSeq (tDrop (tBM K "list" rAppend (mVar 5) (tCons (tTup (tCons (tC (.str "fork")) (tCons (mVar 6) (tCons (tOp (mXor) (tOp (mShr) (mVar 1) (tOp (mSub) (mVar 0) (mVar 6))) (tC (.int 1))) (tCons (tC (.int 0)) (tCons (tOp (mSub) (tOp (mPow) (tC (.int 10)) (tC (.int 60))) (tC (.int 1))) (tNil))))))) (tNil)))) (tDrop (tBM K "list" rAppend (mVar 5) (tCons (tTup (tCons (tC (.str "fork")) (tCons (mVar 6) (tCons (tOp (mXor) (tOp (mShr) (mVar 1) (tOp (mSub) (mVar 0) (mVar 6))) (tC (.int 1))) (tCons (tC (.str "")) (tCons (tC (.str "x")) (tNil))))))) (tNil)))))) (tNext)) (tRet (tTup (tCons (mVar 2) (tCons (tOp (rIxA K) (mVar 5) (tOp (mMod) (tOp (mFdiv) (mVar 4) (tC (.int 7))) (tCB (kLenA K) (tCons (mVar 5) (tNil))))) (tNil))))))))
def R_law_7 (K : PySem.W.Frag) (A : Adr) : TS := tRet (tOp (mIsA) (tCallX (sp_is_slip K A) (fun _ => E0) (tCons (mVar 1) (tCons (mVar 2) (tCons (tTup (tCons (mVar 3) (tCons (mVar 5) (tNil)))) (tNil))))) (tC (.bl true)))
def R_law_6 (K : PySem.W.Frag) (A : Adr) : TS := tSeq (tFor (iSeqA K (tOp (mAddG K) (tSl (rSlA K) (mVar 0) (tPart (tC (.int 4))) (tPart (tC (.int 44)))) (tLst (tCons (tCallX (sp__law_at K A) (fun _ => E0) (tCons (mVar 0) (tCons (tC (.int 81)) (tNil)))) (tCons (tCallX (sp__law_at K A) (fun _ => E0) (tCons (mVar 0) (tCons (tC (.int 82)) (tNil)))) (tNil)))))) (gName 6) (tSeq (mIfS (mTest (tOp (mNotA) (tCallX (sp_is_slip K A) (fun _ => E0) (tCons (mVar 1) (tCons (mVar 2) (tCons (tCallX (sp__law_bad K A) (fun _ => E0) (tCons (mVar 6) (tCons (mVar 1) (tCons (mVar 2) (tCons (mVar 3) (tCons (mVar 5) (tCons (mVar 4) (tNil)))))))) (tNil))))) (tC (.bl false)))) (tRet (tC (.bl false))) (tNext)) (mIfS (mTest (tOp (mNotA) (tCallX (sp_is_slip K A) (fun _ => E0) (tCons (mVar 1) (tCons (mVar 2) (tCons (tCallX (sp__law_good K A) (fun _ => E0) (tCons (mVar 1) (tCons (mVar 2) (tCons (mVar 3) (tCons (mVar 4) (tCons (tOp (mMod) (mVar 6) (tOp (mPow) (tC (.int 10)) (tC (.int 30)))) (tNil))))))) (tNil))))) (tC (.bl true)))) (tRet (tC (.bl false))) (tNext)))) (R_law_7 K A)
def R_law_5 (K : PySem.W.Frag) (A : Adr) : TS := tSeq (mIfS (mTest (tOp (mNotA) (tCallX (sp_is_slip K A) (fun _ => E0) (tCons (mVar 1) (tCons (mVar 2) (tCons (tTup (tCons (mVar 3) (tCons (mVar 5) (tNil)))) (tNil))))) (tC (.bl true)))) (tRet (tC (.bl false))) (tNext)) (R_law_6 K A)
def R_law_4 (K : PySem.W.Frag) (A : Adr) : TS := tSeq (tAsg (tCallX (sp__law_end K A) (fun _ => E0) (tCons (tCallX (sp__law_at K A) (fun _ => E0) (tCons (mVar 0) (tCons (tC (.int 3)) (tNil)))) (tCons (mVar 1) (tCons (mVar 2) (tCons (mVar 4) (tNil)))))) (gName 5)) (R_law_5 K A)
def R_law_3 (K : PySem.W.Frag) (A : Adr) : TS := tSeq (tAsg (tCallX (sp__law_place K A) (fun _ => E0) (tCons (mVar 3) (tCons (tC (.int 0)) (tNil)))) (gName 4)) (R_law_4 K A)
def R_law_2 (K : PySem.W.Frag) (A : Adr) : TS := tSeq (tAsg (tCallX (sp__law_steps K A) (fun _ => E0) (tCons (tCallX (sp__law_at K A) (fun _ => E0) (tCons (mVar 0) (tCons (tC (.int 2)) (tNil)))) (tCons (tC (.int 0)) (tCons (mVar 1) (tNil))))) (gName 3)) (R_law_3 K A)
def R_law_1 (K : PySem.W.Frag) (A : Adr) : TS := tSeq (tAsg (tCallX (sp__law_key K A) (fun _ => E0) (tCons (mVar 1) (tCons (tCallX (sp__law_at K A) (fun _ => E0) (tCons (mVar 0) (tCons (tC (.int 1)) (tNil)))) (tCons (tLst (tNil)) (tNil))))) (gName 2)) (R_law_2 K A)
def T_law (K : PySem.W.Frag) (A : Adr) : TS := tSeq (tAsg (tCallX (sp__law_bits K A) (fun _ => E0) (tCons (tCallX (sp__law_at K A) (fun _ => E0) (tCons (mVar 0) (tCons (tC (.int 0)) (tNil)))) (tNil))) (gName 1)) (tSeq (tAsg (tCallX (sp__law_key K A) (fun _ => E0) (tCons (mVar 1) (tCons (tCallX (sp__law_at K A) (fun _ => E0) (tCons (mVar 0) (tCons (tC (.int 1)) (tNil)))) (tCons (tLst (tNil)) (tNil))))) (gName 2)) (tSeq (tAsg (tCallX (sp__law_steps K A) (fun _ => E0) (tCons (tCallX (sp__law_at K A) (fun _ => E0) (tCons (mVar 0) (tCons (tC (.int 2)) (tNil)))) (tCons (tC (.int 0)) (tCons (mVar 1) (tNil))))) (gName 3)) (tSeq (tAsg (tCallX (sp__law_place K A) (fun _ => E0) (tCons (mVar 3) (tCons (tC (.int 0)) (tNil)))) (gName 4)) (tSeq (tAsg (tCallX (sp__law_end K A) (fun _ => E0) (tCons (tCallX (sp__law_at K A) (fun _ => E0) (tCons (mVar 0) (tCons (tC (.int 3)) (tNil)))) (tCons (mVar 1) (tCons (mVar 2) (tCons (mVar 4) (tNil)))))) (gName 5)) (tSeq (mIfS (mTest (tOp (mNotA) (tCallX (sp_is_slip K A) (fun _ => E0) (tCons (mVar 1) (tCons (mVar 2) (tCons (tTup (tCons (mVar 3) (tCons (mVar 5) (tNil)))) (tNil))))) (tC (.bl true)))) (tRet (tC (.bl false))) (tNext)) (tSeq (tFor (iSeqA K (tOp (mAddG K) (tSl (rSlA K) (mVar 0) (tPart (tC (.int 4))) (tPart (tC (.int 44)))) (tLst (tCons (tCallX (sp__law_at K A) (fun _ => E0) (tCons (mVar 0) (tCons (tC (.int 81)) (tNil)))) (tCons (tCallX (sp__law_at K A) (fun _ => E0) (tCons (mVar 0) (tCons (tC (.int 82)) (tNil)))) (tNil)))))) (gName 6) (tSeq (mIfS (mTest (tOp (mNotA) (tCallX (sp_is_slip K A) (fun _ => E0) (tCons (mVar 1) (tCons (mVar 2) (tCons (tCallX (sp__law_bad K A) (fun _ => E0) (tCons (mVar 6) (tCons (mVar 1) (tCons (mVar 2) (tCons (mVar 3) (tCons (mVar 5) (tCons (mVar 4) (tNil)))))))) (tNil))))) (tC (.bl false)))) (tRet (tC (.bl false))) (tNext)) (mIfS (mTest (tOp (mNotA) (tCallX (sp_is_slip K A) (fun _ => E0) (tCons (mVar 1) (tCons (mVar 2) (tCons (tCallX (sp__law_good K A) (fun _ => E0) (tCons (mVar 1) (tCons (mVar 2) (tCons (mVar 3) (tCons (mVar 4) (tCons (tOp (mMod) (mVar 6) (tOp (mPow) (tC (.int 10)) (tC (.int 30)))) (tNil))))))) (tNil))))) (tC (.bl true)))) (tRet (tC (.bl false))) (tNext)))) (tRet (tOp (mIsA) (tCallX (sp_is_slip K A) (fun _ => E0) (tCons (mVar 1) (tCons (mVar 2) (tCons (tTup (tCons (mVar 3) (tCons (mVar 5) (tNil)))) (tNil))))) (tC (.bl true))))))))))
end Rs
namespace Rs
open PySem PySem.Spec PyProof.Rows L2
theorem tm__law_bits {P : Program} {w : World} {K : PySem.W.Frag} {mg : Str → Option Value} {base : Heap} {A : Adr} (T : Txt K mg A)  (cdv : Value) (Ar : Around) (outer : List Env) (s : Shared) (H : Hp) (E : XK)
    (hr : Room 0 (Ar.deeper (envOfC "_law_bits" (defScope s__law_bits) s.heap.objs.size A.a__law_bits cdv))) : PSs (cxOf (CX1 P w) P w K mg base ["_law_cell"] "_law_bits" (defScope s__law_bits) A.a__law_bits cdv Ar outer s H E).nox (defBody s__law_bits) (T__law_bits K A) := QSs.out (
  x_sone (x_ret (x_op oAddG (x_int) (x_op oMod (x_op oFdiv (x_var 0) (x_int)) (x_ix (ix_any hr.units1) (x_lst (x_cons (x_int) (x_cons (x_int) (x_cons (x_int) (x_nil))))) (x_op oMod (x_var 0) (x_int)) (fun _ _ => rfl))))))
theorem tm__law_at {P : Program} {w : World} {K : PySem.W.Frag} {mg : Str → Option Value} {base : Heap} {A : Adr} (T : Txt K mg A)  (cdv : Value) (Ar : Around) (outer : List Env) (s : Shared) (H : Hp) (E : XK)
    (hr : Room 0 (Ar.deeper (envOfC "_law_at" (defScope s__law_at) s.heap.objs.size A.a__law_at cdv))) : PSs (cxOf (CX1 P w) P w K mg base ["_law_script", "_law_k", "_law_number", "_law_cell"] "_law_at" (defScope s__law_at) A.a__law_at cdv Ar outer s H E).nox (defBody s__law_at) (T__law_at K A) := QSs.out (
  x_scons (x_ifS (x_tcmp oLt (x_var 1) (x_callB cLenA T.z_len PySem.boot_len (x_cons (x_var 0) (x_nil)))) (x_sone (x_ret (x_ix (ix_any hr.units1) (x_var 0) (x_var 1) (fun _ _ => rfl)))) (x_snil)) (x_scons (x_set 2 sc__law_at.nd (x_op oAddG (x_int) (x_callB cLenA T.z_len PySem.boot_len (x_cons (x_var 0) (x_nil))))) (x_scons (x_for 3 sc__law_at.nd (x_seqA (x_slice sl_all (x_var 0) (x_onone) (x_osome (x_int)))) (x_sone (x_set 2 sc__law_at.nd (x_op oMod (x_op oAddG (x_op oMulB (x_var 2) (x_int)) (x_var 3)) (x_int)))) PassesOwn.never) (x_scons (x_set 2 sc__law_at.nd (x_op oMod (x_op oAddG (x_var 2) (x_op oMulB (x_int) (x_var 1))) (x_int))) (x_sone (x_ret (x_op oMod (x_op oMulB (x_var 2) (x_var 2)) (x_int))))))))
theorem tm__law_key {P : Program} {w : World} {K : PySem.W.Frag} {mg : Str → Option Value} {base : Heap} {A : Adr} (T : Txt K mg A)  (cdv : Value) (Ar : Around) (outer : List Env) (s : Shared) (H : Hp) (E : XK)
    (hr : Room 0 (Ar.deeper (envOfC "_law_key" (defScope s__law_key) s.heap.objs.size A.a__law_key cdv))) : PSs (cxOf (CX1 P w) P w K mg base ["_law_bits_here", "_law_cell", "_law_others", "_law_many", "_law_number", "_law_flip"] "_law_key" (defScope s__law_key) A.a__law_key cdv Ar outer s H E).nox (defBody s__law_key) (T__law_key K A) := QSs.out (
  x_scons (x_set 3 sc__law_key.nd (x_op oShl (x_int) (x_var 0))) (x_scons (x_set 4 sc__law_key.nd (x_op oFdiv (x_var 1) (x_int))) (x_scons (x_ifS (x_tcmp (oEqC hr.units150) (x_op oMod (x_var 1) (x_int)) (x_int)) (x_sone (x_ret (x_op oMod (x_var 4) (x_var 3)))) (x_snil)) (x_scons (x_ifS (x_tcmp (oEqC hr.units150) (x_op oMod (x_var 1) (x_int)) (x_int)) (x_sone (x_ret (x_op oSub (x_op oSub (x_var 3) (x_int)) (x_op oMod (x_var 4) (x_var 3))))) (x_snil)) (x_scons (x_ifS (x_w (x_wand (x_tcmp (oEqC hr.units150) (x_op oMod (x_var 1) (x_int)) (x_int)) (x_wand1 (x_tcmp (oNeB hr.units150) (x_var 2) (x_lst (x_nil)))))) (x_scons (x_set 5 sc__law_key.nd (x_op oMod (x_op oMod (x_op oMulB (x_var 4) (x_int)) (x_int)) (x_var 0))) (x_sone (x_ret (x_op oXor (x_ix (ix_any hr.units1) (x_var 2) (x_op oMod (x_var 4) (x_callB cLenA T.z_len PySem.boot_len (x_cons (x_var 2) (x_nil)))) (fun _ _ => rfl)) (x_op oShl (x_int) (x_var 5)))))) (x_snil)) (x_sone (x_ret (x_op oMod (x_op oMulB (x_var 4) (x_int)) (x_var 3)))))))))
theorem tm__law_mark {P : Program} {w : World} {K : PySem.W.Frag} {mg : Str → Option Value} {base : Heap} {A : Adr} (T : Txt K mg A)  (cdv : Value) (Ar : Around) (outer : List Env) (s : Shared) (H : Hp) (E : XK)
    (hr : Room 0 (Ar.deeper (envOfC "_law_mark" (defScope s__law_mark) s.heap.objs.size A.a__law_mark cdv))) : PSs (cxOf (CX1 P w) P w K mg base ["_law_number"] "_law_mark" (defScope s__law_mark) A.a__law_mark cdv Ar outer s H E).nox (defBody s__law_mark) (T__law_mark K A) := QSs.out (
  x_scons (x_set 0 sc__law_mark.nd (x_op oMod (x_op oMulB (x_var 0) (x_int)) (x_int))) (x_scons (x_ifS (x_tcmp (oEqC hr.units150) (x_op oMod (x_var 0) (x_int)) (x_int)) (x_sone (x_ret (x_op oAddG (x_str) (x_callTy cStr T.z_str boot_str (x_cons (x_op oMod (x_var 0) (x_int)) (x_nil)))))) (x_snil)) (x_scons (x_ifS (x_tcmp (oEqC hr.units150) (x_op oMod (x_var 0) (x_int)) (x_int)) (x_sone (x_ret (x_op oMod (x_op oFdiv (x_var 0) (x_int)) (x_int)))) (x_snil)) (x_scons (x_ifS (x_tcmp (oEqC hr.units150) (x_op oMod (x_var 0) (x_int)) (x_int)) (x_sone (x_ret (x_op oMulB (x_var 0) (x_op oPow (x_int) (x_int))))) (x_snil)) (x_sone (x_ret (x_op oSub (x_op oSub (x_op oPow (x_int) (x_int)) (x_int)) (x_var 0))))))))
theorem tm__law_steps {P : Program} {w : World} {K : PySem.W.Frag} {mg : Str → Option Value} {base : Heap} {A : Adr} (T : Txt K mg A) (G__law_mark : FnOk P w K mg base (CX1 P w) 1 A.a__law_mark A.d__law_mark ["_law_number"] (sp__law_mark K A)) (cdv : Value) (Ar : Around) (outer : List Env) (s : Shared) (H : Hp) (E : XK)
    (hr : Room 1 (Ar.deeper (envOfC "_law_steps" (defScope s__law_steps) s.heap.objs.size A.a__law_steps cdv))) : PSs (cxOf (CX1 P w) P w K mg base ["_law_cell", "_law_low", "_law_bits_here", "_law_number", "_law_found", "_law_depth"] "_law_steps" (defScope s__law_steps) A.a__law_steps cdv Ar outer s H E).nox (defBody s__law_steps) (T__law_steps K A) := QSs.out (
  x_scons (x_set 3 sc__law_steps.nd (x_op oMod (x_op oFdiv (x_var 0) (x_int)) (x_int))) (x_scons (x_set 4 sc__law_steps.nd (x_lst (x_nil))) (x_scons (x_for 5 sc__law_steps.nd (x_range2 T.z_range (x_cons (x_var 1) (x_cons (x_var 2) (x_nil)))) (x_sone (x_ifS (x_tcmp oLt (x_op oMod (x_op oMod (x_op oMulB (x_op oMulB (x_var 3) (x_op oAddG (x_var 5) (x_int))) (x_int)) (x_int)) (x_int)) (x_op oMod (x_var 0) (x_int))) (x_sone (x_drop (x_bm PySem.F.plainAttrs_list PySem.F.slot_list_append PySem.F.type_list_append mt_append (x_var 4) (x_cons (x_tup (x_cons (x_var 5) (x_cons (x_callX G__law_mark (hr.mono (by decide)) T.m__law_mark T.f__law_mark.kp T.b__law_mark passF (x_cons (x_op oAddG (x_var 3) (x_op oMulB (x_int) (x_var 5))) (x_nil))) (x_nil)))) (x_nil))))) (x_snil))) PassesOwn.never) (x_sone (x_ret (x_callTy cTuple T.z_tuple boot_tuple (x_cons (x_var 4) (x_nil))))))))
theorem tm__law_place {P : Program} {w : World} {K : PySem.W.Frag} {mg : Str → Option Value} {base : Heap} {A : Adr} (T : Txt K mg A)  (cdv : Value) (Ar : Around) (outer : List Env) (s : Shared) (H : Hp) (E : XK)
    (hr : Room 0 (Ar.deeper (envOfC "_law_place" (defScope s__law_place) s.heap.objs.size A.a__law_place cdv))) : PSs (cxOf (CX1 P w) P w K mg base ["_law_steps_here", "_law_low"] "_law_place" (defScope s__law_place) A.a__law_place cdv Ar outer s H E).nox (defBody s__law_place) (T__law_place K A) := QSs.out (
  x_scons (x_ifS (x_tcmp (oEqC hr.units150) (x_var 0) (x_tup (x_nil))) (x_sone (x_ret (x_var 1))) (x_snil)) (x_sone (x_ret (x_op oAddG (x_ix (ix_any hr.units1) (x_ix (ix_any hr.units1) (x_var 0) (x_neg (x_int)) (fun _ _ => rfl)) (x_int) (fun _ _ => rfl)) (x_int)))))
theorem tm__law_text {P : Program} {w : World} {K : PySem.W.Frag} {mg : Str → Option Value} {base : Heap} {A : Adr} (T : Txt K mg A)  (cdv : Value) (Ar : Around) (outer : List Env) (s : Shared) (H : Hp) (E : XK)
    (hr : Room 0 (Ar.deeper (envOfC "_law_text" (defScope s__law_text) s.heap.objs.size A.a__law_text cdv))) : PSs (cxOf (CX1 P w) P w K mg base ["_law_cell", "_law_signs", "_law_size", "_law_made", "_law_k"] "_law_text" (defScope s__law_text) A.a__law_text cdv Ar outer s H E).nox (defBody s__law_text) (T__law_text K A) := QSs.out (
  x_scons (x_set 1 sc__law_text.nd (x_str)) (x_scons (x_set 1 sc__law_text.nd (x_op oAddG (x_var 1) (x_str))) (x_scons (x_set 2 sc__law_text.nd (x_op oMod (x_var 0) (x_int))) (x_scons (x_ifS (x_tcmp (oEqC hr.units150) (x_op oMod (x_op oFdiv (x_var 0) (x_int)) (x_int)) (x_int)) (x_sone (x_set 2 sc__law_text.nd (x_int))) (x_snil)) (x_scons (x_ifS (x_tcmp (oEqC hr.units150) (x_op oMod (x_op oFdiv (x_var 0) (x_int)) (x_int)) (x_int)) (x_sone (x_set 2 sc__law_text.nd (x_op oMod (x_op oFdiv (x_var 0) (x_int)) (x_int)))) (x_snil)) (x_scons (x_set 3 sc__law_text.nd (x_str)) (x_scons (x_for 4 sc__law_text.nd (x_range1 T.z_range (x_cons (x_var 2) (x_nil))) (x_sone (x_set 3 sc__law_text.nd (x_op oAddG (x_var 3) (x_ix (ix_any hr.units1) (x_var 1) (x_op oMod (x_op oAddG (x_op oFdiv (x_var 0) (x_int)) (x_op oMulB (x_var 4) (x_op oMod (x_op oFdiv (x_var 0) (x_int)) (x_int)))) (x_callB cLenA T.z_len PySem.boot_len (x_cons (x_var 1) (x_nil)))) (fun _ _ => rfl))))) PassesOwn.never) (x_sone (x_ret (x_var 3))))))))))
theorem tm__law_end {P : Program} {w : World} {K : PySem.W.Frag} {mg : Str → Option Value} {base : Heap} {A : Adr} (T : Txt K mg A) (G__law_mark : FnOk P w K mg base (CX1 P w) 1 A.a__law_mark A.d__law_mark ["_law_number"] (sp__law_mark K A)) (G__law_text : FnOk P w K mg base (CX1 P w) 1 A.a__law_text A.d__law_text ["_law_cell"] (sp__law_text K A)) (cdv : Value) (Ar : Around) (outer : List Env) (s : Shared) (H : Hp) (E : XK)
    (hr : Room 1 (Ar.deeper (envOfC "_law_end" (defScope s__law_end) s.heap.objs.size A.a__law_end cdv))) : PSs (cxOf (CX1 P w) P w K mg base ["_law_cell", "_law_bits_here", "_law_key_here", "_law_low", "_law_number", "_law_depth", "_law_own", "_law_wide", "_law_rest", "_law_free"] "_law_end" (defScope s__law_end) A.a__law_end cdv Ar outer s H E).nox (defBody s__law_end) (T__law_end K A) := QSs.out (
  x_scons (x_set 4 sc__law_end.nd (x_op oFdiv (x_var 0) (x_int))) (x_scons (x_ifS (x_w (x_wand (x_tcmp (oEqC hr.units150) (x_op oMod (x_var 0) (x_int)) (x_int)) (x_wand1 (x_tcmp (oEqC hr.units150) (x_var 3) (x_int))))) (x_sone (x_ret (x_tup (x_cons (x_str) (x_nil))))) (x_snil)) (x_scons (x_ifS (x_w (x_wand (x_tcmp (oEqC hr.units150) (x_op oMod (x_var 0) (x_int)) (x_int)) (x_wand1 (x_tcmp oLt (x_op oAddG (x_var 3) (x_int)) (x_var 1))))) (x_scons (x_set 5 sc__law_end.nd (x_op oAddG (x_op oAddG (x_var 3) (x_int)) (x_op oMod (x_var 4) (x_op oSub (x_op oSub (x_var 1) (x_int)) (x_var 3))))) (x_scons (x_set 6 sc__law_end.nd (x_op oShr (x_var 2) (x_op oSub (x_var 1) (x_var 5)))) (x_scons (x_set 7 sc__law_end.nd (x_op oShl (x_int) (x_op oSub (x_var 5) (x_var 3)))) (x_scons (x_set 8 sc__law_end.nd (x_op oMod (x_op oAddG (x_op oAddG (x_op oMod (x_var 6) (x_var 7)) (x_int)) (x_op oMod (x_op oMulB (x_var 4) (x_int)) (x_op oSub (x_var 7) (x_int)))) (x_var 7))) (x_sone (x_ret (x_tup (x_cons (x_str) (x_cons (x_var 5) (x_cons (x_op oAddG (x_op oSub (x_var 6) (x_op oMod (x_var 6) (x_var 7))) (x_var 8)) (x_cons (x_callX G__law_mark (hr.mono (by decide)) T.m__law_mark T.f__law_mark.kp T.b__law_mark passF (x_cons (x_var 4) (x_nil))) (x_cons (x_callX G__law_mark (hr.mono (by decide)) T.m__law_mark T.f__law_mark.kp T.b__law_mark passF (x_cons (x_op oAddG (x_op oFdiv (x_var 4) (x_int)) (x_int)) (x_nil))) (x_nil))))))))))))) (x_snil)) (x_scons (x_set 9 sc__law_end.nd (x_op oShl (x_int) (x_op oSub (x_var 1) (x_var 3)))) (x_scons (x_ifS (x_tcmp (oEqC hr.units150) (x_op oMod (x_var 0) (x_int)) (x_int)) (x_sone (x_ret (x_tup (x_cons (x_str) (x_cons (x_var 2) (x_cons (x_callX G__law_text (hr.mono (by decide)) T.m__law_text T.f__law_text.kp T.b__law_text passF (x_cons (x_var 4) (x_nil))) (x_nil))))))) (x_snil)) (x_sone (x_ret (x_tup (x_cons (x_str) (x_cons (x_op oAddG (x_op oSub (x_var 2) (x_op oMod (x_var 2) (x_var 9))) (x_op oMod (x_op oMulB (x_var 4) (x_int)) (x_var 9))) (x_cons (x_callX G__law_text (hr.mono (by decide)) T.m__law_text T.f__law_text.kp T.b__law_text passF (x_cons (x_op oFdiv (x_var 4) (x_int)) (x_nil))) (x_nil))))))))))))
theorem tm_is_whole {P : Program} {w : World} {K : PySem.W.Frag} {mg : Str → Option Value} {base : Heap} {A : Adr} (T : Txt K mg A)  (cdv : Value) (Ar : Around) (outer : List Env) (s : Shared) (H : Hp) (E : XK)
    (hr : Room 0 (Ar.deeper (envOfC "is_whole" (defScope s_is_whole) s.heap.objs.size A.a_is_whole cdv))) : PSs (cxOf (CX1 P w) P w K mg base ["thing"] "is_whole" (defScope s_is_whole) A.a_is_whole cdv Ar outer s H E).nox (defBody s_is_whole) (T_is_whole K A) := QSs.out (
  x_sone (x_ret (x_and (x_callB cIsi T.z_isinstance boot_isinstance (x_cons (x_var 0) (x_cons (x_ty T.z_int boot_int) (x_nil)))) (x_one (x_not (x_callB cIsi T.z_isinstance boot_isinstance (x_cons (x_var 0) (x_cons (x_ty T.z_bool boot_bool) (x_nil)))))))))
theorem tm_is_stamp {P : Program} {w : World} {K : PySem.W.Frag} {mg : Str → Option Value} {base : Heap} {A : Adr} (T : Txt K mg A) (G_is_whole : FnOk P w K mg base (CX1 P w) 1 A.a_is_whole A.d_is_whole ["thing"] (sp_is_whole K A)) (cdv : Value) (Ar : Around) (outer : List Env) (s : Shared) (H : Hp) (E : XK)
    (hr : Room 1 (Ar.deeper (envOfC "is_stamp" (defScope s_is_stamp) s.heap.objs.size A.a_is_stamp cdv))) : PSs (cxOf (CX1 P w) P w K mg base ["thing"] "is_stamp" (defScope s_is_stamp) A.a_is_stamp cdv Ar outer s H E).nox (defBody s_is_stamp) (T_is_stamp K A) := QSs.out (
  x_scons (x_ifS (x_test (x_callX G_is_whole (hr.mono (by decide)) T.m_is_whole T.f_is_whole.kp T.b_is_whole passF (x_cons (x_var 0) (x_nil)))) (x_sone (x_ret (x_chain oLe oLt (x_int) (x_var 0) (x_op oPow (x_int) (x_int))))) (x_snil)) (x_sone (x_ret (x_callB cIsi T.z_isinstance boot_isinstance (x_cons (x_var 0) (x_cons (x_ty T.z_str boot_str) (x_nil)))))))
theorem tm_is_step {P : Program} {w : World} {K : PySem.W.Frag} {mg : Str → Option Value} {base : Heap} {A : Adr} (T : Txt K mg A) (G_is_whole : FnOk P w K mg base (CX1 P w) 1 A.a_is_whole A.d_is_whole ["thing"] (sp_is_whole K A)) (G_is_stamp : FnOk P w K mg base (CX1 P w) 2 A.a_is_stamp A.d_is_stamp ["thing"] (sp_is_stamp K A)) (cdv : Value) (Ar : Around) (outer : List Env) (s : Shared) (H : Hp) (E : XK)
    (hr : Room 2 (Ar.deeper (envOfC "is_step" (defScope s_is_step) s.heap.objs.size A.a_is_step cdv))) : PSs (cxOf (CX1 P w) P w K mg base ["bits", "least", "thing"] "is_step" (defScope s_is_step) A.a_is_step cdv Ar outer s H E).nox (defBody s_is_step) (T_is_step K A) := QSs.out (
  x_scons (x_ifS (x_w (x_wor (x_tnot (x_test (x_callB cIsi T.z_isinstance boot_isinstance (x_cons (x_var 2) (x_cons (x_ty T.z_tuple boot_tuple) (x_nil)))))) (x_wor1 (x_tcmp (oNeB hr.units150) (x_callB cLenA T.z_len PySem.boot_len (x_cons (x_var 2) (x_nil))) (x_int))))) (x_sone (x_ret (x_bl))) (x_snil)) (x_sone (x_ret (x_and (x_callX G_is_whole (hr.mono (by decide)) T.m_is_whole T.f_is_whole.kp T.b_is_whole passF (x_cons (x_ix (ix_any hr.units1) (x_var 2) (x_int) (fun _ _ => rfl)) (x_nil))) (x_and (x_chain oLe oLt (x_var 1) (x_ix (ix_any hr.units1) (x_var 2) (x_int) (fun _ _ => rfl)) (x_var 0)) (x_one (x_callX G_is_stamp (hr.mono (by decide)) T.m_is_stamp T.f_is_stamp.kp T.b_is_stamp passF (x_cons (x_ix (ix_any hr.units1) (x_var 2) (x_int) (fun _ _ => rfl)) (x_nil)))))))))
theorem tm_are_steps {P : Program} {w : World} {K : PySem.W.Frag} {mg : Str → Option Value} {base : Heap} {A : Adr} (T : Txt K mg A) (G_is_step : FnOk P w K mg base (CX1 P w) 3 A.a_is_step A.d_is_step ["bits", "least", "thing"] (sp_is_step K A)) (cdv : Value) (Ar : Around) (outer : List Env) (s : Shared) (H : Hp) (E : XK)
    (hr : Room 3 (Ar.deeper (envOfC "are_steps" (defScope s_are_steps) s.heap.objs.size A.a_are_steps cdv))) : PSs (cxOf (CX1 P w) P w K mg base ["bits", "thing", "least", "step"] "are_steps" (defScope s_are_steps) A.a_are_steps cdv Ar outer s H E).nox (defBody s_are_steps) (T_are_steps K A) := QSs.out (
  x_scons (x_ifS (x_tnot (x_test (x_callB cIsi T.z_isinstance boot_isinstance (x_cons (x_var 1) (x_cons (x_ty T.z_tuple boot_tuple) (x_nil)))))) (x_sone (x_ret (x_bl))) (x_snil)) (x_scons (x_set 2 sc_are_steps.nd (x_int)) (x_scons (x_for 3 sc_are_steps.nd (x_seqA (x_var 1)) (x_scons (x_ifS (x_tnot (x_test (x_callX G_is_step (hr.mono (by decide)) T.m_is_step T.f_is_step.kp T.b_is_step passF (x_cons (x_var 0) (x_cons (x_var 2) (x_cons (x_var 3) (x_nil))))))) (x_sone (x_ret (x_bl))) (x_snil)) (x_sone (x_set 2 sc_are_steps.nd (x_op oAddG (x_ix (ix_any hr.units1) (x_var 3) (x_int) (fun _ _ => rfl)) (x_int))))) PassesOwn.never) (x_sone (x_ret (x_bl))))))
theorem tm_start {P : Program} {w : World} {K : PySem.W.Frag} {mg : Str → Option Value} {base : Heap} {A : Adr} (T : Txt K mg A)  (cdv : Value) (Ar : Around) (outer : List Env) (s : Shared) (H : Hp) (E : XK)
    (hr : Room 0 (Ar.deeper (envOfC "start" (defScope s_start) s.heap.objs.size A.a_start cdv))) : PSs (cxOf (CX1 P w) P w K mg base ["bits", "key", "depth"] "start" (defScope s_start) A.a_start cdv Ar outer s H E).nox (defBody s_start) (T_start K A) := QSs.out (
  x_sone (x_ret (x_op oShr (x_var 1) (x_op oSub (x_var 0) (x_var 2)))))
theorem tm_is_key {P : Program} {w : World} {K : PySem.W.Frag} {mg : Str → Option Value} {base : Heap} {A : Adr} (T : Txt K mg A) (G_is_whole : FnOk P w K mg base (CX1 P w) 1 A.a_is_whole A.d_is_whole ["thing"] (sp_is_whole K A)) (cdv : Value) (Ar : Around) (outer : List Env) (s : Shared) (H : Hp) (E : XK)
    (hr : Room 1 (Ar.deeper (envOfC "is_key" (defScope s_is_key) s.heap.objs.size A.a_is_key cdv))) : PSs (cxOf (CX1 P w) P w K mg base ["bits", "thing"] "is_key" (defScope s_is_key) A.a_is_key cdv Ar outer s H E).nox (defBody s_is_key) (T_is_key K A) := QSs.out (
  x_sone (x_ret (x_and (x_callX G_is_whole (hr.mono (by decide)) T.m_is_whole T.f_is_whole.kp T.b_is_whole passF (x_cons (x_var 1) (x_nil))) (x_one (x_chain oLe oLt (x_int) (x_var 1) (x_op oShl (x_int) (x_var 0)))))))
theorem tm_is_value {P : Program} {w : World} {K : PySem.W.Frag} {mg : Str → Option Value} {base : Heap} {A : Adr} (T : Txt K mg A)  (cdv : Value) (Ar : Around) (outer : List Env) (s : Shared) (H : Hp) (E : XK)
    (hr : Room 0 (Ar.deeper (envOfC "is_value" (defScope s_is_value) s.heap.objs.size A.a_is_value cdv))) : PSs (cxOf (CX1 P w) P w K mg base ["thing"] "is_value" (defScope s_is_value) A.a_is_value cdv Ar outer s H E).nox (defBody s_is_value) (T_is_value K A) := QSs.out (
  x_sone (x_ret (x_and (x_callB cIsi T.z_isinstance boot_isinstance (x_cons (x_var 0) (x_cons (x_ty T.z_str boot_str) (x_nil)))) (x_one (x_cmp oLe (x_callB cLenA T.z_len PySem.boot_len (x_cons (x_var 0) (x_nil))) (x_gi T.c_MOST_SIGNS))))))
theorem tm_is_leaf {P : Program} {w : World} {K : PySem.W.Frag} {mg : Str → Option Value} {base : Heap} {A : Adr} (T : Txt K mg A) (G_is_key : FnOk P w K mg base (CX1 P w) 2 A.a_is_key A.d_is_key ["bits", "thing"] (sp_is_key K A)) (G_is_value : FnOk P w K mg base (CX1 P w) 1 A.a_is_value A.d_is_value ["thing"] (sp_is_value K A)) (G_start : FnOk P w K mg base (CX1 P w) 1 A.a_start A.d_start ["bits", "key", "depth"] (sp_start K A)) (cdv : Value) (Ar : Around) (outer : List Env) (s : Shared) (H : Hp) (E : XK)
    (hr : Room 2 (Ar.deeper (envOfC "is_leaf" (defScope s_is_leaf) s.heap.objs.size A.a_is_leaf cdv))) : PSs (cxOf (CX1 P w) P w K mg base ["bits", "depth", "begin", "thing"] "is_leaf" (defScope s_is_leaf) A.a_is_leaf cdv Ar outer s H E).nox (defBody s_is_leaf) (T_is_leaf K A) := QSs.out (
  x_scons (x_ifS (x_w (x_wor (x_tnot (x_test (x_callB cIsi T.z_isinstance boot_isinstance (x_cons (x_var 3) (x_cons (x_ty T.z_tuple boot_tuple) (x_nil)))))) (x_wor (x_tcmp (oNeB hr.units150) (x_callB cLenA T.z_len PySem.boot_len (x_cons (x_var 3) (x_nil))) (x_int)) (x_wor1 (x_tcmp (oNeB hr.units150) (x_ix (ix_any hr.units1) (x_var 3) (x_int) (fun _ _ => rfl)) (x_str)))))) (x_sone (x_ret (x_bl))) (x_snil)) (x_scons (x_ifS (x_w (x_wor (x_tnot (x_test (x_callX G_is_key (hr.mono (by decide)) T.m_is_key T.f_is_key.kp T.b_is_key passF (x_cons (x_var 0) (x_cons (x_ix (ix_any hr.units1) (x_var 3) (x_int) (fun _ _ => rfl)) (x_nil)))))) (x_wor1 (x_tnot (x_test (x_callX G_is_value (hr.mono (by decide)) T.m_is_value T.f_is_value.kp T.b_is_value passF (x_cons (x_ix (ix_any hr.units1) (x_var 3) (x_int) (fun _ _ => rfl)) (x_nil)))))))) (x_sone (x_ret (x_bl))) (x_snil)) (x_sone (x_ret (x_cmp (oEqC hr.units150) (x_callX G_start (hr.mono (by decide)) T.m_start T.f_start.kp T.b_start passF (x_cons (x_var 0) (x_cons (x_ix (ix_any hr.units1) (x_var 3) (x_int) (fun _ _ => rfl)) (x_cons (x_var 1) (x_nil))))) (x_var 2))))))
theorem tm_is_fork {P : Program} {w : World} {K : PySem.W.Frag} {mg : Str → Option Value} {base : Heap} {A : Adr} (T : Txt K mg A) (G_is_whole : FnOk P w K mg base (CX1 P w) 1 A.a_is_whole A.d_is_whole ["thing"] (sp_is_whole K A)) (cdv : Value) (Ar : Around) (outer : List Env) (s : Shared) (H : Hp) (E : XK)
    (hr : Room 1 (Ar.deeper (envOfC "is_fork" (defScope s_is_fork) s.heap.objs.size A.a_is_fork cdv))) : PSs (cxOf (CX1 P w) P w K mg base ["bits", "depth", "begin", "thing"] "is_fork" (defScope s_is_fork) A.a_is_fork cdv Ar outer s H E).nox (defBody s_is_fork) (T_is_fork K A) := QSs.out (
  x_scons (x_ifS (x_w (x_wor (x_tnot (x_test (x_callB cIsi T.z_isinstance boot_isinstance (x_cons (x_var 3) (x_cons (x_ty T.z_tuple boot_tuple) (x_nil)))))) (x_wor (x_tcmp (oNeB hr.units150) (x_callB cLenA T.z_len PySem.boot_len (x_cons (x_var 3) (x_nil))) (x_int)) (x_wor1 (x_tcmp (oNeB hr.units150) (x_ix (ix_any hr.units1) (x_var 3) (x_int) (fun _ _ => rfl)) (x_str)))))) (x_sone (x_ret (x_bl))) (x_snil)) (x_scons (x_ifS (x_w (x_wor (x_tnot (x_test (x_callX G_is_whole (hr.mono (by decide)) T.m_is_whole T.f_is_whole.kp T.b_is_whole passF (x_cons (x_ix (ix_any hr.units1) (x_var 3) (x_int) (fun _ _ => rfl)) (x_nil))))) (x_wor1 (x_tnot (x_tchain oLe oLt (x_var 1) (x_ix (ix_any hr.units1) (x_var 3) (x_int) (fun _ _ => rfl)) (x_var 0)))))) (x_sone (x_ret (x_bl))) (x_snil)) (x_scons (x_ifS (x_w (x_wor (x_tnot (x_test (x_callX G_is_whole (hr.mono (by decide)) T.m_is_whole T.f_is_whole.kp T.b_is_whole passF (x_cons (x_ix (ix_any hr.units1) (x_var 3) (x_int) (fun _ _ => rfl)) (x_nil))))) (x_wor1 (x_tnot (x_tchain oLe oLt (x_int) (x_ix (ix_any hr.units1) (x_var 3) (x_int) (fun _ _ => rfl)) (x_op oShl (x_int) (x_ix (ix_any hr.units1) (x_var 3) (x_int) (fun _ _ => rfl)))))))) (x_sone (x_ret (x_bl))) (x_snil)) (x_sone (x_ret (x_cmp (oEqC hr.units150) (x_op oShr (x_ix (ix_any hr.units1) (x_var 3) (x_int) (fun _ _ => rfl)) (x_op oSub (x_ix (ix_any hr.units1) (x_var 3) (x_int) (fun _ _ => rfl)) (x_var 1))) (x_var 2)))))))
theorem tm_is_end {P : Program} {w : World} {K : PySem.W.Frag} {mg : Str → Option Value} {base : Heap} {A : Adr} (T : Txt K mg A) (G_start : FnOk P w K mg base (CX1 P w) 1 A.a_start A.d_start ["bits", "key", "depth"] (sp_start K A)) (G_is_leaf : FnOk P w K mg base (CX1 P w) 3 A.a_is_leaf A.d_is_leaf ["bits", "depth", "begin", "thing"] (sp_is_leaf K A)) (G_is_fork : FnOk P w K mg base (CX1 P w) 2 A.a_is_fork A.d_is_fork ["bits", "depth", "begin", "thing"] (sp_is_fork K A)) (G_is_stamp : FnOk P w K mg base (CX1 P w) 2 A.a_is_stamp A.d_is_stamp ["thing"] (sp_is_stamp K A)) (cdv : Value) (Ar : Around) (outer : List Env) (s : Shared) (H : Hp) (E : XK)
    (hr : Room 3 (Ar.deeper (envOfC "is_end" (defScope s_is_end) s.heap.objs.size A.a_is_end cdv))) : PSs (cxOf (CX1 P w) P w K mg base ["bits", "key", "place", "thing", "begin"] "is_end" (defScope s_is_end) A.a_is_end cdv Ar outer s H E).nox (defBody s_is_end) (T_is_end K A) := QSs.out (
  x_scons (x_ifS (x_tcmp (oEqC hr.units150) (x_var 3) (x_tup (x_cons (x_str) (x_nil)))) (x_sone (x_ret (x_cmp (oEqC hr.units150) (x_var 2) (x_int)))) (x_snil)) (x_scons (x_set 4 sc_is_end.nd (x_callX G_start (hr.mono (by decide)) T.m_start T.f_start.kp T.b_start passF (x_cons (x_var 0) (x_cons (x_var 1) (x_cons (x_var 2) (x_nil)))))) (x_scons (x_ifS (x_test (x_callX G_is_leaf (hr.mono (by decide)) T.m_is_leaf T.f_is_leaf.kp T.b_is_leaf passF (x_cons (x_var 0) (x_cons (x_var 2) (x_cons (x_var 4) (x_cons (x_var 3) (x_nil))))))) (x_sone (x_ret (x_bl))) (x_snil)) (x_scons (x_ifS (x_tnot (x_test (x_callX G_is_fork (hr.mono (by decide)) T.m_is_fork T.f_is_fork.kp T.b_is_fork passF (x_cons (x_var 0) (x_cons (x_var 2) (x_cons (x_var 4) (x_cons (x_var 3) (x_nil)))))))) (x_sone (x_ret (x_bl))) (x_snil)) (x_scons (x_ifS (x_tcmp (oEqC hr.units150) (x_ix (ix_any hr.units1) (x_var 3) (x_int) (fun _ _ => rfl)) (x_callX G_start (hr.mono (by decide)) T.m_start T.f_start.kp T.b_start passF (x_cons (x_var 0) (x_cons (x_var 1) (x_cons (x_ix (ix_any hr.units1) (x_var 3) (x_int) (fun _ _ => rfl)) (x_nil)))))) (x_sone (x_ret (x_bl))) (x_snil)) (x_sone (x_ret (x_and (x_callX G_is_stamp (hr.mono (by decide)) T.m_is_stamp T.f_is_stamp.kp T.b_is_stamp passF (x_cons (x_ix (ix_any hr.units1) (x_var 3) (x_int) (fun _ _ => rfl)) (x_nil))) (x_one (x_callX G_is_stamp (hr.mono (by decide)) T.m_is_stamp T.f_is_stamp.kp T.b_is_stamp passF (x_cons (x_ix (ix_any hr.units1) (x_var 3) (x_int) (fun _ _ => rfl)) (x_nil))))))))))))
theorem tm_is_slip {P : Program} {w : World} {K : PySem.W.Frag} {mg : Str → Option Value} {base : Heap} {A : Adr} (T : Txt K mg A) (G_are_steps : FnOk P w K mg base (CX1 P w) 4 A.a_are_steps A.d_are_steps ["bits", "thing"] (sp_are_steps K A)) (G_is_end : FnOk P w K mg base (CX1 P w) 4 A.a_is_end A.d_is_end ["bits", "key", "place", "thing"] (sp_is_end K A)) (cdv : Value) (Ar : Around) (outer : List Env) (s : Shared) (H : Hp) (E : XK)
    (hr : Room 4 (Ar.deeper (envOfC "is_slip" (defScope s_is_slip) s.heap.objs.size A.a_is_slip cdv))) : PSs (cxOf (CX1 P w) P w K mg base ["bits", "key", "thing", "place"] "is_slip" (defScope s_is_slip) A.a_is_slip cdv Ar outer s H E).nox (defBody s_is_slip) (T_is_slip K A) := QSs.out (
  x_scons (x_ifS (x_w (x_wor (x_tnot (x_test (x_callB cIsi T.z_isinstance boot_isinstance (x_cons (x_var 2) (x_cons (x_ty T.z_tuple boot_tuple) (x_nil)))))) (x_wor1 (x_tcmp (oNeB hr.units150) (x_callB cLenA T.z_len PySem.boot_len (x_cons (x_var 2) (x_nil))) (x_int))))) (x_sone (x_ret (x_bl))) (x_snil)) (x_scons (x_ifS (x_tnot (x_test (x_callX G_are_steps (hr.mono (by decide)) T.m_are_steps T.f_are_steps.kp T.b_are_steps passF (x_cons (x_var 0) (x_cons (x_ix (ix_any hr.units1) (x_var 2) (x_int) (fun _ _ => rfl)) (x_nil)))))) (x_sone (x_ret (x_bl))) (x_snil)) (x_scons (x_set 3 sc_is_slip.nd (x_if (x_test (x_ix (ix_any hr.units1) (x_var 2) (x_int) (fun _ _ => rfl))) (x_op oAddG (x_ix (ix_any hr.units1) (x_ix (ix_any hr.units1) (x_ix (ix_any hr.units1) (x_var 2) (x_int) (fun _ _ => rfl)) (x_neg (x_int)) (fun _ _ => rfl)) (x_int) (fun _ _ => rfl)) (x_int)) (x_int))) (x_sone (x_ret (x_callX G_is_end (hr.mono (by decide)) T.m_is_end T.f_is_end.kp T.b_is_end passF (x_cons (x_var 0) (x_cons (x_var 1) (x_cons (x_var 3) (x_cons (x_ix (ix_any hr.units1) (x_var 2) (x_int) (fun _ _ => rfl)) (x_nil)))))))))))
theorem tm__law_deep {P : Program} {w : World} {K : PySem.W.Frag} {mg : Str → Option Value} {base : Heap} {A : Adr} (T : Txt K mg A)  (cdv : Value) (Ar : Around) (outer : List Env) (s : Shared) (H : Hp) (E : XK)
    (hr : Room 0 (Ar.deeper (envOfC "_law_deep" (defScope s__law_deep) s.heap.objs.size A.a__law_deep cdv))) : PSs (cxOf (CX1 P w) P w K mg base ["_law_thing", "_law_k"] "_law_deep" (defScope s__law_deep) A.a__law_deep cdv Ar outer s H E).nox (defBody s__law_deep) (T__law_deep K A) := QSs.out (
  x_scons (x_for 1 sc__law_deep.nd (x_range1 T.z_range (x_cons (x_int) (x_nil))) (x_sone (x_set 0 sc__law_deep.nd (x_lst (x_cons (x_var 0) (x_nil))))) PassesOwn.never) (x_sone (x_ret (x_var 0))))
theorem tm__law_bad_steps {P : Program} {w : World} {K : PySem.W.Frag} {mg : Str → Option Value} {base : Heap} {A : Adr} (T : Txt K mg A) (G__law_deep : FnOk P w K mg base (CX1 P w) 1 A.a__law_deep A.d__law_deep ["_law_thing"] (sp__law_deep K A)) (cdv : Value) (Ar : Around) (outer : List Env) (s : Shared) (H : Hp) (E : XK)
    (hr : Room 1 (Ar.deeper (envOfC "_law_bad_steps" (defScope s__law_bad_steps) s.heap.objs.size A.a__law_bad_steps cdv))) : PSs (cxOf (CX1 P w) P w K mg base ["_law_cell", "_law_steps_here", "_law_bits_here", "_law_at_here", "_law_depth", "_law_mark_here", "_law_some", "_law_far", "_law_changed"] "_law_bad_steps" (defScope s__law_bad_steps) A.a__law_bad_steps cdv Ar outer s H E).nox (defBody s__law_bad_steps) (T__law_bad_steps K A) := QSs.out (
  x_scons (x_set 3 sc__law_bad_steps.nd (x_op oMod (x_op oFdiv (x_var 0) (x_int)) (x_callB cLenA T.z_len PySem.boot_len (x_cons (x_var 1) (x_nil))))) (x_scons (x_set2 4 5 sc__law_bad_steps.nd rfl (x_ix (ix_any hr.units1) (x_var 1) (x_var 3) (fun _ _ => rfl))) (x_scons (x_set 6 sc__law_bad_steps.nd (x_lst (x_cons (x_tup (x_cons (x_var 4) (x_nil))) (x_cons (x_tup (x_cons (x_var 4) (x_cons (x_var 5) (x_cons (x_var 5) (x_nil))))) (x_cons (x_lst (x_cons (x_var 4) (x_cons (x_var 5) (x_nil)))) (x_cons (x_var 4) (x_cons (x_non) (x_cons (x_tup (x_cons (x_neg (x_int)) (x_cons (x_var 5) (x_nil)))) (x_cons (x_tup (x_cons (x_var 2) (x_cons (x_var 5) (x_nil)))) (x_nil)))))))))) (x_scons (x_set 6 sc__law_bad_steps.nd (x_op oAddG (x_var 6) (x_lst (x_cons (x_tup (x_cons (x_bl) (x_cons (x_var 5) (x_nil)))) (x_cons (x_tup (x_cons (x_non) (x_cons (x_var 5) (x_nil)))) (x_cons (x_tup (x_cons (x_str) (x_cons (x_var 5) (x_nil)))) (x_cons (x_tup (x_cons (x_op oAddG (x_var 2) (x_var 4)) (x_cons (x_var 5) (x_nil)))) (x_cons (x_tup (x_cons (x_var 4) (x_cons (x_neg (x_int)) (x_nil)))) (x_nil))))))))) (x_scons (x_set 6 sc__law_bad_steps.nd (x_op oAddG (x_var 6) (x_lst (x_cons (x_tup (x_cons (x_var 4) (x_cons (x_op oPow (x_int) (x_int)) (x_nil)))) (x_cons (x_tup (x_cons (x_var 4) (x_cons (x_non) (x_nil)))) (x_cons (x_tup (x_cons (x_var 4) (x_cons (x_bl) (x_nil)))) (x_cons (x_tup (x_cons (x_var 4) (x_cons (x_lst (x_cons (x_var 5) (x_nil))) (x_nil)))) (x_cons (x_tup (x_cons (x_var 4) (x_cons (x_tup (x_cons (x_var 5) (x_nil))) (x_nil)))) (x_nil))))))))) (x_scons (x_set 6 sc__law_bad_steps.nd (x_op oAddG (x_var 6) (x_lst (x_cons (x_tup (x_cons (x_var 4) (x_cons (x_callX G__law_deep (hr.mono (by decide)) T.m__law_deep T.f__law_deep.kp T.b__law_deep passF (x_cons (x_var 5) (x_nil))) (x_nil)))) (x_cons (x_callX G__law_deep (hr.mono (by decide)) T.m__law_deep T.f__law_deep.kp T.b__law_deep passF (x_cons (x_var 4) (x_nil))) (x_cons (x_tup (x_cons (x_var 4) (x_cons (x_dnewA) (x_nil)))) (x_cons (x_tup (x_cons (x_bl) (x_cons (x_var 5) (x_nil)))) (x_nil)))))))) (x_scons (x_set 7 sc__law_bad_steps.nd (x_op oMulB (x_op oPow (x_int) (x_int)) (x_op oPow (x_int) (x_int)))) (x_scons (x_set 6 sc__law_bad_steps.nd (x_op oAddG (x_var 6) (x_lst (x_cons (x_tup (x_cons (x_var 7) (x_cons (x_var 5) (x_nil)))) (x_cons (x_tup (x_cons (x_neg (x_var 7)) (x_cons (x_var 5) (x_nil)))) (x_cons (x_tup (x_cons (x_var 4) (x_cons (x_var 7) (x_nil)))) (x_cons (x_tup (x_cons (x_var 4) (x_cons (x_neg (x_var 7)) (x_nil)))) (x_cons (x_tup (x_cons (x_var 4) (x_cons (x_bl) (x_nil)))) (x_cons (x_tup (x_cons (x_cmp oGt (x_var 4) (x_int)) (x_cons (x_var 5) (x_nil)))) (x_nil)))))))))) (x_scons (x_set 8 sc__law_bad_steps.nd (x_callTy cList T.z_list boot_list (x_cons (x_var 1) (x_nil)))) (x_scons (x_ifS (x_tcmp (oEqC hr.units150) (x_op oMod (x_var 0) (x_int)) (x_int)) (x_sone (x_drop (x_bm PySem.F.plainAttrs_list PySem.F.slot_list_insert PySem.F.type_list_insert mt_insert (x_var 8) (x_cons (x_var 3) (x_cons (x_ix (ix_any hr.units1) (x_var 1) (x_var 3) (fun _ _ => rfl)) (x_nil)))))) (x_sone (x_ifS (x_w (x_wand (x_tcmp (oEqC hr.units150) (x_op oMod (x_var 0) (x_int)) (x_int)) (x_wand1 (x_tcmp oGt (x_callB cLenA T.z_len PySem.boot_len (x_cons (x_var 1) (x_nil))) (x_int))))) (x_sone (x_drop (x_bm0 PySem.F.plainAttrs_list PySem.F.slot_list_reverse PySem.F.type_list_reverse mt_reverse (x_var 8)))) (x_sone (x_ifS (x_w (x_wand (x_tcmp (oEqC hr.units150) (x_op oMod (x_var 0) (x_int)) (x_int)) (x_wand1 (x_tcmp oLt (x_op oAddG (x_var 3) (x_int)) (x_callB cLenA T.z_len PySem.boot_len (x_cons (x_var 1) (x_nil))))))) (x_scons (x_setixA hr.units1 (x_var 8) (x_var 3) (x_ix (ix_any hr.units1) (x_var 1) (x_op oAddG (x_var 3) (x_int)) (fun _ _ => rfl))) (x_sone (x_setixA hr.units1 (x_var 8) (x_op oAddG (x_var 3) (x_int)) (x_ix (ix_any hr.units1) (x_var 1) (x_var 3) (fun _ _ => rfl))))) (x_sone (x_ifS (x_w (x_wand (x_tcmp (oEqC hr.units150) (x_op oMod (x_var 0) (x_int)) (x_int)) (x_wand1 (x_tcmp oGt (x_var 3) (x_int))))) (x_sone (x_setixA hr.units1 (x_var 8) (x_var 3) (x_tup (x_cons (x_ix (ix_any hr.units1) (x_ix (ix_any hr.units1) (x_var 1) (x_op oSub (x_var 3) (x_int)) (fun _ _ => rfl)) (x_int) (fun _ _ => rfl)) (x_cons (x_var 5) (x_nil)))))) (x_sone (x_setixA hr.units1 (x_var 8) (x_var 3) (x_ix (ix_any hr.units1) (x_var 6) (x_op oMod (x_op oFdiv (x_var 0) (x_int)) (x_callB cLenA T.z_len PySem.boot_len (x_cons (x_var 6) (x_nil)))) (fun _ _ => rfl))))))))))) (x_sone (x_ret (x_callTy cTuple T.z_tuple boot_tuple (x_cons (x_var 8) (x_nil)))))))))))))))
theorem tm__law_bad_leaves {P : Program} {w : World} {K : PySem.W.Frag} {mg : Str → Option Value} {base : Heap} {A : Adr} (T : Txt K mg A) (G__law_deep : FnOk P w K mg base (CX1 P w) 1 A.a__law_deep A.d__law_deep ["_law_thing"] (sp__law_deep K A)) (cdv : Value) (Ar : Around) (outer : List Env) (s : Shared) (H : Hp) (E : XK)
    (hr : Room 1 (Ar.deeper (envOfC "_law_bad_leaves" (defScope s__law_bad_leaves) s.heap.objs.size A.a__law_bad_leaves cdv))) : PSs (cxOf (CX1 P w) P w K mg base ["_law_bits_here", "_law_key_here", "_law_low", "_law_number", "_law_some", "_law_flip"] "_law_bad_leaves" (defScope s__law_bad_leaves) A.a__law_bad_leaves cdv Ar outer s H E).nox (defBody s__law_bad_leaves) (T__law_bad_leaves K A) := QSs.out (
  x_scons (x_set 4 sc__law_bad_leaves.nd (x_lst (x_cons (x_tup (x_cons (x_str) (x_cons (x_var 1) (x_nil)))) (x_cons (x_tup (x_cons (x_str) (x_cons (x_var 1) (x_cons (x_str) (x_cons (x_str) (x_nil)))))) (x_cons (x_lst (x_cons (x_str) (x_cons (x_var 1) (x_cons (x_str) (x_nil))))) (x_cons (x_tup (x_cons (x_str) (x_cons (x_var 1) (x_cons (x_str) (x_nil))))) (x_cons (x_tup (x_cons (x_str) (x_cons (x_int) (x_nil)))) (x_cons (x_tup (x_nil)) (x_nil))))))))) (x_scons (x_set 4 sc__law_bad_leaves.nd (x_op oAddG (x_var 4) (x_lst (x_cons (x_tup (x_cons (x_str) (x_cons (x_int) (x_nil)))) (x_cons (x_non) (x_cons (x_str) (x_cons (x_tup (x_cons (x_str) (x_cons (x_neg (x_int)) (x_cons (x_str) (x_nil))))) (x_cons (x_tup (x_cons (x_str) (x_cons (x_op oShl (x_int) (x_var 0)) (x_cons (x_str) (x_nil))))) (x_cons (x_tup (x_cons (x_str) (x_cons (x_bl) (x_cons (x_str) (x_nil))))) (x_nil)))))))))) (x_scons (x_set 4 sc__law_bad_leaves.nd (x_op oAddG (x_var 4) (x_lst (x_cons (x_tup (x_cons (x_str) (x_cons (x_non) (x_cons (x_str) (x_nil))))) (x_cons (x_tup (x_cons (x_str) (x_cons (x_str) (x_cons (x_str) (x_nil))))) (x_cons (x_tup (x_cons (x_str) (x_cons (x_var 1) (x_cons (x_op oMulB (x_str) (x_int)) (x_nil))))) (x_cons (x_tup (x_cons (x_str) (x_cons (x_var 1) (x_cons (x_non) (x_nil))))) (x_nil)))))))) (x_scons (x_set 4 sc__law_bad_leaves.nd (x_op oAddG (x_var 4) (x_lst (x_cons (x_tup (x_cons (x_str) (x_cons (x_var 1) (x_cons (x_int) (x_nil))))) (x_cons (x_tup (x_cons (x_str) (x_cons (x_var 1) (x_cons (x_lst (x_cons (x_str) (x_nil))) (x_nil))))) (x_cons (x_lst (x_cons (x_str) (x_nil))) (x_cons (x_dnewA) (x_cons (x_tup (x_cons (x_str) (x_nil))) (x_cons (x_tup (x_cons (x_non) (x_cons (x_var 1) (x_cons (x_str) (x_nil))))) (x_cons (x_tup (x_cons (x_str) (x_nil))) (x_nil))))))))))) (x_scons (x_set 4 sc__law_bad_leaves.nd (x_op oAddG (x_var 4) (x_lst (x_cons (x_tup (x_cons (x_str) (x_cons (x_op oAddG (x_var 1) (x_op oShl (x_int) (x_var 0))) (x_cons (x_str) (x_nil))))) (x_cons (x_tup (x_cons (x_str) (x_cons (x_var 1) (x_cons (x_tup (x_cons (x_str) (x_nil))) (x_nil))))) (x_cons (x_tup (x_cons (x_tup (x_cons (x_str) (x_nil))) (x_nil))) (x_cons (x_tup (x_cons (x_str) (x_cons (x_callX G__law_deep (hr.mono (by decide)) T.m__law_deep T.f__law_deep.kp T.b__law_deep passF (x_cons (x_var 1) (x_nil))) (x_cons (x_str) (x_nil))))) (x_nil)))))))) (x_scons (x_set 4 sc__law_bad_leaves.nd (x_op oAddG (x_var 4) (x_lst (x_cons (x_tup (x_cons (x_str) (x_cons (x_cmp oGt (x_var 1) (x_int)) (x_cons (x_str) (x_nil))))) (x_cons (x_tup (x_cons (x_str) (x_cons (x_op oMulB (x_op oPow (x_int) (x_int)) (x_op oPow (x_int) (x_int))) (x_cons (x_str) (x_nil))))) (x_cons (x_tup (x_cons (x_str) (x_cons (x_neg (x_op oPow (x_int) (x_int))) (x_cons (x_str) (x_nil))))) (x_nil))))))) (x_scons (x_ifS (x_tcmp oGt (x_var 2) (x_int)) (x_scons (x_set 5 sc__law_bad_leaves.nd (x_op oShl (x_int) (x_op oSub (x_op oSub (x_var 0) (x_int)) (x_op oMod (x_var 3) (x_var 2))))) (x_sone (x_set 4 sc__law_bad_leaves.nd (x_op oAddG (x_var 4) (x_lst (x_cons (x_tup (x_cons (x_str) (x_nil))) (x_cons (x_tup (x_cons (x_str) (x_cons (x_op oXor (x_var 1) (x_var 5)) (x_cons (x_str) (x_nil))))) (x_cons (x_tup (x_cons (x_str) (x_cons (x_op oXor (x_var 1) (x_var 5)) (x_cons (x_str) (x_nil))))) (x_nil))))))))) (x_snil)) (x_sone (x_ret (x_var 4))))))))))
theorem tm__law_bad_forks {P : Program} {w : World} {K : PySem.W.Frag} {mg : Str → Option Value} {base : Heap} {A : Adr} (T : Txt K mg A)  (cdv : Value) (Ar : Around) (outer : List Env) (s : Shared) (H : Hp) (E : XK)
    (hr : Room 0 (Ar.deeper (envOfC "_law_bad_forks" (defScope s__law_bad_forks) s.heap.objs.size A.a__law_bad_forks cdv))) : PSs (cxOf (CX1 P w) P w K mg base ["_law_bits_here", "_law_key_here", "_law_low", "_law_number", "_law_top", "_law_some", "_law_far", "_law_deep_here", "_law_depth", "_law_own", "_law_good_here", "_law_flip"] "_law_bad_forks" (defScope s__law_bad_forks) A.a__law_bad_forks cdv Ar outer s H E).nox (defBody s__law_bad_forks) (T__law_bad_forks K A) := QSs.out (
  x_scons (x_set 4 sc__law_bad_forks.nd (x_op oShr (x_var 1) (x_op oSub (x_var 0) (x_var 2)))) (x_scons (x_set 5 sc__law_bad_forks.nd (x_lst (x_cons (x_tup (x_cons (x_str) (x_cons (x_var 2) (x_cons (x_var 4) (x_cons (x_int) (x_cons (x_int) (x_nil))))))) (x_cons (x_tup (x_cons (x_str) (x_cons (x_var 2) (x_cons (x_op oXor (x_var 4) (x_int)) (x_cons (x_int) (x_cons (x_int) (x_nil))))))) (x_cons (x_tup (x_cons (x_str) (x_cons (x_var 0) (x_cons (x_op oXor (x_var 1) (x_int)) (x_cons (x_int) (x_cons (x_int) (x_nil))))))) (x_nil)))))) (x_scons (x_set 5 sc__law_bad_forks.nd (x_op oAddG (x_var 5) (x_lst (x_cons (x_tup (x_cons (x_str) (x_cons (x_bl) (x_cons (x_int) (x_cons (x_int) (x_cons (x_int) (x_nil))))))) (x_cons (x_tup (x_cons (x_str) (x_cons (x_neg (x_int)) (x_cons (x_int) (x_cons (x_int) (x_cons (x_int) (x_nil))))))) (x_cons (x_tup (x_cons (x_str) (x_nil))) (x_cons (x_tup (x_cons (x_str) (x_cons (x_non) (x_cons (x_int) (x_cons (x_int) (x_cons (x_int) (x_nil))))))) (x_nil)))))))) (x_scons (x_set 6 sc__law_bad_forks.nd (x_op oMulB (x_op oPow (x_int) (x_int)) (x_op oPow (x_int) (x_int)))) (x_scons (x_set 5 sc__law_bad_forks.nd (x_op oAddG (x_var 5) (x_lst (x_cons (x_tup (x_cons (x_str) (x_cons (x_var 6) (x_cons (x_var 4) (x_cons (x_int) (x_cons (x_int) (x_nil))))))) (x_cons (x_tup (x_cons (x_str) (x_cons (x_neg (x_var 6)) (x_cons (x_var 4) (x_cons (x_int) (x_cons (x_int) (x_nil))))))) (x_cons (x_tup (x_cons (x_str) (x_cons (x_var 0) (x_cons (x_var 6) (x_cons (x_int) (x_cons (x_int) (x_nil))))))) (x_nil))))))) (x_scons (x_set 7 sc__law_bad_forks.nd (x_op oAddG (x_int) (x_op oMod (x_var 3) (x_int)))) (x_scons (x_set 5 sc__law_bad_forks.nd (x_op oAddG (x_var 5) (x_lst (x_cons (x_tup (x_cons (x_str) (x_cons (x_op oAddG (x_var 0) (x_var 7)) (x_cons (x_op oXor (x_op oShl (x_var 1) (x_var 7)) (x_int)) (x_cons (x_int) (x_cons (x_int) (x_nil))))))) (x_cons (x_tup (x_cons (x_str) (x_cons (x_op oAddG (x_var 0) (x_var 7)) (x_cons (x_int) (x_cons (x_int) (x_cons (x_int) (x_nil))))))) (x_nil)))))) (x_scons (x_ifS (x_tcmp oLt (x_op oAddG (x_var 2) (x_int)) (x_var 0)) (x_scons (x_set 8 sc__law_bad_forks.nd (x_op oAddG (x_op oAddG (x_var 2) (x_int)) (x_op oMod (x_var 3) (x_op oSub (x_op oSub (x_var 0) (x_int)) (x_var 2))))) (x_scons (x_set 9 sc__law_bad_forks.nd (x_op oShr (x_var 1) (x_op oSub (x_var 0) (x_var 8)))) (x_scons (x_set 10 sc__law_bad_forks.nd (x_op oXor (x_var 9) (x_int))) (x_scons (x_set 5 sc__law_bad_forks.nd (x_op oAddG (x_var 5) (x_lst (x_cons (x_tup (x_cons (x_str) (x_cons (x_var 8) (x_cons (x_cmp oGt (x_var 10) (x_int)) (x_cons (x_int) (x_cons (x_int) (x_nil))))))) (x_cons (x_tup (x_cons (x_str) (x_cons (x_var 8) (x_cons (x_var 6) (x_cons (x_int) (x_cons (x_int) (x_nil))))))) (x_cons (x_tup (x_cons (x_str) (x_cons (x_var 8) (x_cons (x_var 10) (x_cons (x_var 6) (x_cons (x_int) (x_nil))))))) (x_nil))))))) (x_scons (x_set 5 sc__law_bad_forks.nd (x_op oAddG (x_var 5) (x_lst (x_cons (x_tup (x_cons (x_str) (x_cons (x_var 8) (x_cons (x_var 10) (x_cons (x_op oPow (x_int) (x_int)) (x_cons (x_int) (x_nil))))))) (x_cons (x_tup (x_cons (x_str) (x_cons (x_var 8) (x_cons (x_var 10) (x_cons (x_bl) (x_cons (x_int) (x_nil))))))) (x_nil)))))) (x_scons (x_set 5 sc__law_bad_forks.nd (x_op oAddG (x_var 5) (x_lst (x_cons (x_tup (x_cons (x_str) (x_cons (x_var 8) (x_cons (x_var 10) (x_cons (x_lst (x_cons (x_int) (x_nil))) (x_cons (x_int) (x_nil))))))) (x_nil))))) (x_scons (x_set 5 sc__law_bad_forks.nd (x_op oAddG (x_var 5) (x_lst (x_cons (x_tup (x_cons (x_str) (x_cons (x_var 8) (x_cons (x_var 10) (x_cons (x_int) (x_cons (x_neg (x_int)) (x_nil))))))) (x_cons (x_tup (x_cons (x_str) (x_cons (x_var 8) (x_cons (x_var 10) (x_cons (x_int) (x_cons (x_non) (x_nil))))))) (x_cons (x_tup (x_cons (x_str) (x_cons (x_var 8) (x_cons (x_var 10) (x_cons (x_int) (x_cons (x_tup (x_cons (x_int) (x_nil))) (x_nil))))))) (x_nil))))))) (x_scons (x_set 5 sc__law_bad_forks.nd (x_op oAddG (x_var 5) (x_lst (x_cons (x_tup (x_cons (x_str) (x_cons (x_var 8) (x_cons (x_var 9) (x_cons (x_int) (x_cons (x_int) (x_nil))))))) (x_cons (x_tup (x_cons (x_str) (x_cons (x_var 8) (x_cons (x_neg (x_int)) (x_cons (x_int) (x_cons (x_int) (x_nil))))))) (x_cons (x_tup (x_cons (x_str) (x_cons (x_var 8) (x_cons (x_var 10) (x_cons (x_int) (x_nil)))))) (x_nil))))))) (x_scons (x_set 5 sc__law_bad_forks.nd (x_op oAddG (x_var 5) (x_lst (x_cons (x_tup (x_cons (x_str) (x_cons (x_var 8) (x_cons (x_op oAddG (x_var 10) (x_op oShl (x_int) (x_var 8))) (x_cons (x_int) (x_cons (x_int) (x_nil))))))) (x_cons (x_tup (x_cons (x_str) (x_cons (x_var 8) (x_cons (x_var 10) (x_cons (x_int) (x_cons (x_int) (x_cons (x_int) (x_nil)))))))) (x_nil)))))) (x_scons (x_set 5 sc__law_bad_forks.nd (x_op oAddG (x_var 5) (x_lst (x_cons (x_tup (x_cons (x_str) (x_cons (x_var 8) (x_cons (x_var 10) (x_cons (x_neg (x_int)) (x_cons (x_int) (x_nil))))))) (x_cons (x_tup (x_cons (x_str) (x_cons (x_var 8) (x_cons (x_var 10) (x_cons (x_int) (x_cons (x_op oPow (x_int) (x_int)) (x_nil))))))) (x_cons (x_lst (x_cons (x_str) (x_cons (x_var 8) (x_cons (x_var 10) (x_cons (x_int) (x_cons (x_int) (x_nil))))))) (x_nil))))))) (x_scons (x_set 5 sc__law_bad_forks.nd (x_op oAddG (x_var 5) (x_lst (x_cons (x_tup (x_cons (x_str) (x_cons (x_var 8) (x_cons (x_var 10) (x_cons (x_non) (x_cons (x_int) (x_nil))))))) (x_cons (x_tup (x_cons (x_str) (x_cons (x_var 8) (x_cons (x_var 10) (x_cons (x_int) (x_cons (x_bl) (x_nil))))))) (x_cons (x_tup (x_cons (x_str) (x_cons (x_var 8) (x_cons (x_non) (x_cons (x_int) (x_cons (x_int) (x_nil))))))) (x_nil))))))) (x_scons (x_set 5 sc__law_bad_forks.nd (x_op oAddG (x_var 5) (x_lst (x_cons (x_tup (x_cons (x_str) (x_cons (x_var 8) (x_cons (x_str) (x_cons (x_int) (x_cons (x_int) (x_nil))))))) (x_cons (x_tup (x_cons (x_str) (x_cons (x_callTy cStr T.z_str boot_str (x_cons (x_var 8) (x_nil))) (x_cons (x_var 10) (x_cons (x_int) (x_cons (x_int) (x_nil))))))) (x_cons (x_tup (x_cons (x_str) (x_cons (x_var 8) (x_cons (x_var 10) (x_cons (x_int) (x_cons (x_int) (x_nil))))))) (x_nil))))))) (x_sone (x_ifS (x_tcmp oGt (x_var 2) (x_int)) (x_scons (x_set 11 sc__law_bad_forks.nd (x_op oShl (x_int) (x_op oSub (x_op oSub (x_var 8) (x_int)) (x_op oMod (x_var 3) (x_var 2))))) (x_sone (x_set 5 sc__law_bad_forks.nd (x_op oAddG (x_var 5) (x_lst (x_cons (x_tup (x_cons (x_str) (x_cons (x_var 8) (x_cons (x_op oXor (x_var 10) (x_var 11)) (x_cons (x_int) (x_cons (x_int) (x_nil))))))) (x_cons (x_tup (x_cons (x_str) (x_cons (x_var 8) (x_cons (x_op oXor (x_var 10) (x_var 11)) (x_cons (x_str) (x_cons (x_str) (x_nil))))))) (x_nil)))))))) (x_snil))))))))))))))) (x_snil)) (x_sone (x_ret (x_var 5)))))))))))
theorem tm__law_bad {P : Program} {w : World} {K : PySem.W.Frag} {mg : Str → Option Value} {base : Heap} {A : Adr} (T : Txt K mg A) (G__law_bad_steps : FnOk P w K mg base (CX1 P w) 2 A.a__law_bad_steps A.d__law_bad_steps ["_law_cell", "_law_steps_here", "_law_bits_here"] (sp__law_bad_steps K A)) (G__law_bad_leaves : FnOk P w K mg base (CX1 P w) 2 A.a__law_bad_leaves A.d__law_bad_leaves ["_law_bits_here", "_law_key_here", "_law_low", "_law_number"] (sp__law_bad_leaves K A)) (G__law_bad_forks : FnOk P w K mg base (CX1 P w) 1 A.a__law_bad_forks A.d__law_bad_forks ["_law_bits_here", "_law_key_here", "_law_low", "_law_number"] (sp__law_bad_forks K A)) (G__law_deep : FnOk P w K mg base (CX1 P w) 1 A.a__law_deep A.d__law_deep ["_law_thing"] (sp__law_deep K A)) (cdv : Value) (Ar : Around) (outer : List Env) (s : Shared) (H : Hp) (E : XK)
    (hr : Room 2 (Ar.deeper (envOfC "_law_bad" (defScope s__law_bad) s.heap.objs.size A.a__law_bad cdv))) : PSs (cxOf (CX1 P w) P w K mg base ["_law_cell", "_law_bits_here", "_law_key_here", "_law_steps_here", "_law_end_here", "_law_low", "_law_number", "_law_some"] "_law_bad" (defScope s__law_bad) A.a__law_bad cdv Ar outer s H E).nox (defBody s__law_bad) (T__law_bad K A) := QSs.out (
  x_scons (x_set 6 sc__law_bad.nd (x_op oFdiv (x_var 0) (x_int))) (x_scons (x_ifS (x_w (x_wand (x_tcmp (oEqC hr.units150) (x_op oMod (x_var 0) (x_int)) (x_int)) (x_wand1 (x_tcmp (oNeB hr.units150) (x_var 3) (x_tup (x_nil)))))) (x_sone (x_ret (x_tup (x_cons (x_callX G__law_bad_steps (hr.mono (by decide)) T.m__law_bad_steps T.f__law_bad_steps.kp T.b__law_bad_steps passF (x_cons (x_var 6) (x_cons (x_var 3) (x_cons (x_var 1) (x_nil))))) (x_cons (x_var 4) (x_nil)))))) (x_snil)) (x_scons (x_ifS (x_tcmp (oEqC hr.units150) (x_op oMod (x_var 0) (x_int)) (x_int)) (x_scons (x_set 7 sc__law_bad.nd (x_callX G__law_bad_leaves (hr.mono (by decide)) T.m__law_bad_leaves T.f__law_bad_leaves.kp T.b__law_bad_leaves passF (x_cons (x_var 1) (x_cons (x_var 2) (x_cons (x_var 5) (x_cons (x_op oFdiv (x_var 6) (x_int)) (x_nil))))))) (x_sone (x_ret (x_tup (x_cons (x_var 3) (x_cons (x_ix (ix_any hr.units1) (x_var 7) (x_op oMod (x_var 6) (x_callB cLenA T.z_len PySem.boot_len (x_cons (x_var 7) (x_nil)))) (fun _ _ => rfl)) (x_nil))))))) (x_snil)) (x_scons (x_ifS (x_tcmp (oEqC hr.units150) (x_op oMod (x_var 0) (x_int)) (x_int)) (x_scons (x_set 7 sc__law_bad.nd (x_callX G__law_bad_forks (hr.mono (by decide)) T.m__law_bad_forks T.f__law_bad_forks.kp T.b__law_bad_forks passF (x_cons (x_var 1) (x_cons (x_var 2) (x_cons (x_var 5) (x_cons (x_op oFdiv (x_var 6) (x_int)) (x_nil))))))) (x_sone (x_ret (x_tup (x_cons (x_var 3) (x_cons (x_ix (ix_any hr.units1) (x_var 7) (x_op oMod (x_var 6) (x_callB cLenA T.z_len PySem.boot_len (x_cons (x_var 7) (x_nil)))) (fun _ _ => rfl)) (x_nil))))))) (x_snil)) (x_scons (x_set 7 sc__law_bad.nd (x_lst (x_cons (x_lst (x_cons (x_var 3) (x_cons (x_var 4) (x_nil)))) (x_cons (x_tup (x_cons (x_var 3) (x_nil))) (x_cons (x_tup (x_cons (x_var 3) (x_cons (x_var 4) (x_cons (x_var 4) (x_nil))))) (x_cons (x_tup (x_cons (x_callTy cList T.z_list boot_list (x_cons (x_var 3) (x_nil))) (x_cons (x_var 4) (x_nil)))) (x_cons (x_tup (x_cons (x_var 3) (x_cons (x_callTy cList T.z_list boot_list (x_cons (x_var 4) (x_nil))) (x_nil)))) (x_cons (x_non) (x_cons (x_str) (x_cons (x_int) (x_cons (x_bl) (x_nil)))))))))))) (x_scons (x_set 7 sc__law_bad.nd (x_op oAddG (x_var 7) (x_lst (x_cons (x_tup (x_nil)) (x_cons (x_lst (x_nil)) (x_cons (x_dnewA) (x_cons (x_tup (x_cons (x_str) (x_nil))) (x_cons (x_var 2) (x_cons (x_str) (x_cons (x_tup (x_cons (x_var 4) (x_cons (x_var 3) (x_nil)))) (x_cons (x_var 3) (x_cons (x_var 4) (x_cons (x_tup (x_cons (x_non) (x_cons (x_var 4) (x_nil)))) (x_cons (x_tup (x_cons (x_var 3) (x_cons (x_non) (x_nil)))) (x_nil))))))))))))))) (x_scons (x_set 7 sc__law_bad.nd (x_op oAddG (x_var 7) (x_lst (x_cons (x_tup (x_cons (x_var 3) (x_cons (x_tup (x_cons (x_var 4) (x_nil))) (x_nil)))) (x_cons (x_tup (x_cons (x_tup (x_cons (x_var 3) (x_nil))) (x_cons (x_var 4) (x_nil)))) (x_cons (x_callX G__law_deep (hr.mono (by decide)) T.m__law_deep T.f__law_deep.kp T.b__law_deep passF (x_cons (x_var 4) (x_nil))) (x_cons (x_tup (x_cons (x_str) (x_cons (x_var 4) (x_nil)))) (x_cons (x_tup (x_cons (x_dnewA) (x_cons (x_var 4) (x_nil)))) (x_nil))))))))) (x_sone (x_ret (x_ix (ix_any hr.units1) (x_var 7) (x_op oMod (x_var 6) (x_callB cLenA T.z_len PySem.boot_len (x_cons (x_var 7) (x_nil)))) (fun _ _ => rfl)))))))))))
theorem tm__law_good {P : Program} {w : World} {K : PySem.W.Frag} {mg : Str → Option Value} {base : Heap} {A : Adr} (T : Txt K mg A) (G__law_text : FnOk P w K mg base (CX1 P w) 1 A.a__law_text A.d__law_text ["_law_cell"] (sp__law_text K A)) (cdv : Value) (Ar : Around) (outer : List Env) (s : Shared) (H : Hp) (E : XK)
    (hr : Room 1 (Ar.deeper (envOfC "_law_good" (defScope s__law_good) s.heap.objs.size A.a__law_good cdv))) : PSs (cxOf (CX1 P w) P w K mg base ["_law_bits_here", "_law_key_here", "_law_steps_here", "_law_low", "_law_number", "_law_some", "_law_depth"] "_law_good" (defScope s__law_good) A.a__law_good cdv Ar outer s H E).nox (defBody s__law_good) (T__law_good K A) := QSs.out (
  x_scons (x_set 5 sc__law_good.nd (x_lst (x_cons (x_tup (x_cons (x_str) (x_cons (x_var 1) (x_cons (x_str) (x_nil))))) (x_cons (x_tup (x_cons (x_str) (x_cons (x_var 1) (x_cons (x_op oMulB (x_str) (x_int)) (x_nil))))) (x_cons (x_tup (x_cons (x_str) (x_cons (x_var 1) (x_cons (x_callX G__law_text (hr.mono (by decide)) T.m__law_text T.f__law_text.kp T.b__law_text passF (x_cons (x_var 4) (x_nil))) (x_nil))))) (x_nil)))))) (x_scons (x_ifS (x_tcmp (oEqC hr.units150) (x_var 2) (x_tup (x_nil))) (x_sone (x_drop (x_bm PySem.F.plainAttrs_list PySem.F.slot_list_append PySem.F.type_list_append mt_append (x_var 5) (x_cons (x_tup (x_cons (x_str) (x_nil))) (x_nil))))) (x_snil)) (x_scons (x_ifS (x_tcmp oLt (x_var 3) (x_var 0)) (x_sone (x_drop (x_bm PySem.F.plainAttrs_list PySem.F.slot_list_append PySem.F.type_list_append mt_append (x_var 5) (x_cons (x_tup (x_cons (x_str) (x_cons (x_op oXor (x_var 1) (x_op oShl (x_int) (x_op oMod (x_var 4) (x_op oSub (x_var 0) (x_var 3))))) (x_cons (x_str) (x_nil))))) (x_nil))))) (x_snil)) (x_scons (x_ifS (x_tcmp oLt (x_op oAddG (x_var 3) (x_int)) (x_var 0)) (x_scons (x_set 6 sc__law_good.nd (x_op oAddG (x_op oAddG (x_var 3) (x_int)) (x_op oMod (x_var 4) (x_op oSub (x_op oSub (x_var 0) (x_int)) (x_var 3))))) (x_scons (x_drop (x_bm PySem.F.plainAttrs_list PySem.F.slot_list_append PySem.F.type_list_append mt_append (x_var 5) (x_cons (x_tup (x_cons (x_str) (x_cons (x_var 6) (x_cons (x_op oXor (x_op oShr (x_var 1) (x_op oSub (x_var 0) (x_var 6))) (x_int)) (x_cons (x_int) (x_cons (x_op oSub (x_op oPow (x_int) (x_int)) (x_int)) (x_nil))))))) (x_nil)))) (x_sone (x_drop (x_bm PySem.F.plainAttrs_list PySem.F.slot_list_append PySem.F.type_list_append mt_append (x_var 5) (x_cons (x_tup (x_cons (x_str) (x_cons (x_var 6) (x_cons (x_op oXor (x_op oShr (x_var 1) (x_op oSub (x_var 0) (x_var 6))) (x_int)) (x_cons (x_str) (x_cons (x_str) (x_nil))))))) (x_nil))))))) (x_snil)) (x_sone (x_ret (x_tup (x_cons (x_var 2) (x_cons (x_ix (ix_any hr.units1) (x_var 5) (x_op oMod (x_op oFdiv (x_var 4) (x_int)) (x_callB cLenA T.z_len PySem.boot_len (x_cons (x_var 5) (x_nil)))) (fun _ _ => rfl)) (x_nil))))))))))
theorem tm_law {P : Program} {w : World} {K : PySem.W.Frag} {mg : Str → Option Value} {base : Heap} {A : Adr} (T : Txt K mg A) (G__law_bits : FnOk P w K mg base (CX1 P w) 1 A.a__law_bits A.d__law_bits ["_law_cell"] (sp__law_bits K A)) (G__law_at : FnOk P w K mg base (CX1 P w) 1 A.a__law_at A.d__law_at ["_law_script", "_law_k"] (sp__law_at K A)) (G__law_key : FnOk P w K mg base (CX1 P w) 1 A.a__law_key A.d__law_key ["_law_bits_here", "_law_cell", "_law_others"] (sp__law_key K A)) (G__law_steps : FnOk P w K mg base (CX1 P w) 2 A.a__law_steps A.d__law_steps ["_law_cell", "_law_low", "_law_bits_here"] (sp__law_steps K A)) (G__law_place : FnOk P w K mg base (CX1 P w) 1 A.a__law_place A.d__law_place ["_law_steps_here", "_law_low"] (sp__law_place K A)) (G__law_end : FnOk P w K mg base (CX1 P w) 2 A.a__law_end A.d__law_end ["_law_cell", "_law_bits_here", "_law_key_here", "_law_low"] (sp__law_end K A)) (G_is_slip : FnOk P w K mg base (CX1 P w) 5 A.a_is_slip A.d_is_slip ["bits", "key", "thing"] (sp_is_slip K A)) (G__law_bad : FnOk P w K mg base (CX1 P w) 3 A.a__law_bad A.d__law_bad ["_law_cell", "_law_bits_here", "_law_key_here", "_law_steps_here", "_law_end_here", "_law_low"] (sp__law_bad K A)) (G__law_good : FnOk P w K mg base (CX1 P w) 2 A.a__law_good A.d__law_good ["_law_bits_here", "_law_key_here", "_law_steps_here", "_law_low", "_law_number"] (sp__law_good K A)) (cdv : Value) (Ar : Around) (outer : List Env) (s : Shared) (H : Hp) (E : XK)
    (hr : Room 5 (Ar.deeper (envOfC "law" (defScope s_law) s.heap.objs.size A.a_law cdv))) : PSs (cxOf (CX1 P w) P w K mg base ["_law_script", "_law_bits_here", "_law_key_here", "_law_steps_here", "_law_low", "_law_end_here", "_law_cell"] "law" (defScope s_law) A.a_law cdv Ar outer s H E).nox (defBody s_law) (T_law K A) := QSs.out (
  x_scons (x_set 1 sc_law.nd (x_callX G__law_bits (hr.mono (by decide)) T.m__law_bits T.f__law_bits.kp T.b__law_bits passF (x_cons (x_callX G__law_at (hr.mono (by decide)) T.m__law_at T.f__law_at.kp T.b__law_at passF (x_cons (x_var 0) (x_cons (x_int) (x_nil)))) (x_nil)))) (x_scons (x_set 2 sc_law.nd (x_callX G__law_key (hr.mono (by decide)) T.m__law_key T.f__law_key.kp T.b__law_key passF (x_cons (x_var 1) (x_cons (x_callX G__law_at (hr.mono (by decide)) T.m__law_at T.f__law_at.kp T.b__law_at passF (x_cons (x_var 0) (x_cons (x_int) (x_nil)))) (x_cons (x_lst (x_nil)) (x_nil)))))) (x_scons (x_set 3 sc_law.nd (x_callX G__law_steps (hr.mono (by decide)) T.m__law_steps T.f__law_steps.kp T.b__law_steps passF (x_cons (x_callX G__law_at (hr.mono (by decide)) T.m__law_at T.f__law_at.kp T.b__law_at passF (x_cons (x_var 0) (x_cons (x_int) (x_nil)))) (x_cons (x_int) (x_cons (x_var 1) (x_nil)))))) (x_scons (x_set 4 sc_law.nd (x_callX G__law_place (hr.mono (by decide)) T.m__law_place T.f__law_place.kp T.b__law_place passF (x_cons (x_var 3) (x_cons (x_int) (x_nil))))) (x_scons (x_set 5 sc_law.nd (x_callX G__law_end (hr.mono (by decide)) T.m__law_end T.f__law_end.kp T.b__law_end passF (x_cons (x_callX G__law_at (hr.mono (by decide)) T.m__law_at T.f__law_at.kp T.b__law_at passF (x_cons (x_var 0) (x_cons (x_int) (x_nil)))) (x_cons (x_var 1) (x_cons (x_var 2) (x_cons (x_var 4) (x_nil))))))) (x_scons (x_ifS (x_tcmp oIsNotA (x_callX G_is_slip (hr.mono (by decide)) T.m_is_slip T.f_is_slip.kp T.b_is_slip passF (x_cons (x_var 1) (x_cons (x_var 2) (x_cons (x_tup (x_cons (x_var 3) (x_cons (x_var 5) (x_nil)))) (x_nil))))) (x_bl)) (x_sone (x_ret (x_bl))) (x_snil)) (x_scons (x_for 6 sc_law.nd (x_seqA (x_op oAddG (x_slice sl_all (x_var 0) (x_osome (x_int)) (x_osome (x_int))) (x_lst (x_cons (x_callX G__law_at (hr.mono (by decide)) T.m__law_at T.f__law_at.kp T.b__law_at passF (x_cons (x_var 0) (x_cons (x_int) (x_nil)))) (x_cons (x_callX G__law_at (hr.mono (by decide)) T.m__law_at T.f__law_at.kp T.b__law_at passF (x_cons (x_var 0) (x_cons (x_int) (x_nil)))) (x_nil)))))) (x_scons (x_ifS (x_tcmp oIsNotA (x_callX G_is_slip (hr.mono (by decide)) T.m_is_slip T.f_is_slip.kp T.b_is_slip passF (x_cons (x_var 1) (x_cons (x_var 2) (x_cons (x_callX G__law_bad (hr.mono (by decide)) T.m__law_bad T.f__law_bad.kp T.b__law_bad passF (x_cons (x_var 6) (x_cons (x_var 1) (x_cons (x_var 2) (x_cons (x_var 3) (x_cons (x_var 5) (x_cons (x_var 4) (x_nil)))))))) (x_nil))))) (x_bl)) (x_sone (x_ret (x_bl))) (x_snil)) (x_sone (x_ifS (x_tcmp oIsNotA (x_callX G_is_slip (hr.mono (by decide)) T.m_is_slip T.f_is_slip.kp T.b_is_slip passF (x_cons (x_var 1) (x_cons (x_var 2) (x_cons (x_callX G__law_good (hr.mono (by decide)) T.m__law_good T.f__law_good.kp T.b__law_good passF (x_cons (x_var 1) (x_cons (x_var 2) (x_cons (x_var 3) (x_cons (x_var 4) (x_cons (x_op oMod (x_var 6) (x_op oPow (x_int) (x_int))) (x_nil))))))) (x_nil))))) (x_bl)) (x_sone (x_ret (x_bl))) (x_snil)))) PassesOwn.never) (x_sone (x_ret (x_cmp oIsA (x_callX G_is_slip (hr.mono (by decide)) T.m_is_slip T.f_is_slip.kp T.b_is_slip passF (x_cons (x_var 1) (x_cons (x_var 2) (x_cons (x_tup (x_cons (x_var 3) (x_cons (x_var 5) (x_nil)))) (x_nil))))) (x_bl)))))))))))
end Rs
namespace Rs
open PySem PySem.Spec PyProof.Rows L2
def tyD : Dat → String
  | .non => "NoneType"
  | .bl _ => "bool"
  | .int _ => "int"
  | .str _ => "str"
  | .lst _ => "list"
  | .tup _ => "tuple"
  | .dic => "dict"
theorem DatW.ty {H : Hp} {v : V} {d : Dat} (h : DatW H v d) : tyN H v = some (tyD d) := by
  cases h with
  | lst e _ => unfold tyN; dsimp only; rw [e]; rfl
  | tup e _ => unfold tyN; dsimp only; rw [e]; rfl
  | dic e => unfold tyN; dsimp only; rcases e with ⟨kvs, e⟩ | ⟨kvs, e⟩ <;> rw [e] <;> rfl
  | _ => rfl
mutual
theorem DatW.toV {K : PySem.W.Frag} {H : Hp} {v : V} {d : Dat} (h : DatW H v d) (ok : okD d = true) : DatV K H v (toPy d) := by
  cases h with
  | non => exact .non
  | bl b => exact .bl b
  | int i => exact .int i
  | str z => exact .str z
  | lst e r => exact .lst (SqL.of e) (DatWs.toV r ok)
  | tup e r => exact .tup (SqT.of e) (DatWs.toV r ok)
  | dic e => cases ok
theorem DatWs.toV {K : PySem.W.Frag} {H : Hp} {xs : List V} {ds : List Dat} (h : DatWs H xs ds) (ok : okDs ds = true) : DatVs K H xs (toPys ds) := by
  cases h with
  | nil => exact .nil
  | cons a r =>
    have ok : (okD _ && okDs _) = true := ok
    rw [Bool.and_eq_true] at ok
    exact .cons (DatW.toV a ok.1) (DatWs.toV r ok.2)
end
mutual
theorem lay_toPy : ∀ {d : Dat}, okD d = true → (toPy d).canLay0 = true
  | .non, _ => rfl
  | .bl _, _ => rfl
  | .int _, _ => rfl
  | .str z, h => (Bool.and_eq_true_iff.mp h).1
  | .lst ds, h => lay_toPys h
  | .tup ds, h => lay_toPys h
theorem lay_toPys : ∀ {ds : List Dat}, okDs ds = true → PyData.canLayAll0 (toPys ds) = true
  | [], _ => rfl
  | d :: r, h => by
    have h : (okD d && okDs r) = true := h
    rw [Bool.and_eq_true] at h
    show ((toPy d).canLay0 && PyData.canLayAll0 (toPys r)) = true
    rw [lay_toPy h.1, lay_toPys h.2]; rfl
end
theorem DatWs.len {H : Hp} : ∀ {xs : List V} {ds : List Dat}, DatWs H xs ds → xs.length = ds.length
  | _, _, .nil => rfl
  | _, _, .cons _ r => by rw [List.length_cons, List.length_cons, r.len]
theorem DatWs.get {H : Hp} : ∀ {xs : List V} {ds : List Dat}, DatWs H xs ds → ∀ {i : Nat} {x : V}, xs[i]? = some x → ∃ d, ds[i]? = some d ∧ DatW H x d
  | _, _, .nil, i, x, e => by cases e
  | _, _, .cons a r, i, x, e => by
    cases i with
    | zero => cases e; exact ⟨_, rfl, a⟩
    | succ i => exact r.get e
mutual
theorem DatW.mono {H H' : Hp} {v : V} {d : Dat} (s : Same H H') (h : DatW H v d) : DatW H' v d := by
  cases h with
  | non => exact .non
  | bl b => exact .bl b
  | int i => exact .int i
  | str z => exact .str z
  | lst e r => exact .lst (s _ _ e) (DatWs.mono s r)
  | tup e r => exact .tup (s _ _ e) (DatWs.mono s r)
  | dic e => exact .dic (e.imp (fun ⟨k, e⟩ => ⟨k, s _ _ e⟩) fun ⟨k, e⟩ => ⟨k, s _ _ e⟩)
theorem DatWs.mono {H H' : Hp} {xs : List V} {ds : List Dat} (s : Same H H') (h : DatWs H xs ds) : DatWs H' xs ds := by
  cases h with
  | nil => exact .nil
  | cons a r => exact .cons (DatW.mono s a) (DatWs.mono s r)
end
theorem ne_word {K : PySem.W.Frag} {H : Hp} {v : V} {d : Dat} {w : Str} {Q : VK} (h : DatW H v d) (ok : okD d = true) (dp : (toPy d).depth ≤ 150) (hw : PyData.strOk w = true) (q : Q (.bl (!isStrD w d)) H) : mNeB K v (.str w) H Q := by
  have ref : ∀ a, v = .ref a → (toPy d).eqv (.str w) = false → isStrD w d = false → mNeB K v (.str w) H Q := fun a e e1 e2 => by
    subst e
    refine ⟨_, _, h.toV ok, .str w, lay_toPy ok, hw, dp, ?_⟩
    rw [e1]; rw [e2] at q; exact q
  cases h with
  | non => exact q
  | bl b => exact q
  | int i => exact q
  | str z => exact q
  | lst e r => exact ref _ rfl rfl rfl
  | tup e r => exact ref _ rfl rfl rfl
  | dic e => cases ok
theorem ixT {K : PySem.W.Frag} {H : Hp} {Q : VK} {a : Addr} {xs : List V} {x : V} {i : Int} {j : Nat} (ha : H a = some (.tup xs)) (e : i = j) (hx : xs[j]? = some x) (q : Q x H) : rIxA K (.ref a) (.int i) H Q := by
  subst e
  refine .inl (.inr (.inl ⟨a, xs, j, x, rfl, rfl, SqT.of ha, ?_, q⟩))
  have hj := (List.getElem?_eq_some_iff.mp hx).1
  rw [atI_lt (by omega) (by omega)]
  simp [List.getD_eq_getElem?_getD, hx]
variable {K : PySem.W.Frag} {mg : Str → Option Value} {A : Adr}
theorem len_is_whole (K : PySem.W.Frag) (A : Adr) : ∀ vs H Q E, sp_is_whole K A vs H Q E → vs.length = 1 := by rintro vs H Q E ⟨v, d, rfl, _⟩; rfl
theorem rd_is_whole (T : Txt K mg A) (vs : List V) (H : Hp) (Q : VK) (E : XK) (h : sp_is_whole K A vs H Q E) : T_is_whole K A { nx := fun _ H' => Q .non H', rt := Q } (start ["thing"] vs) H := by
  obtain ⟨v, d, rfl, w, q⟩ := h
  refine ⟨by decide, _, w.ty, ?_⟩
  cases d
  case int i => exact Sel.yes rfl ⟨by decide, _, w.ty, q⟩
  case bl b => exact Sel.yes rfl ⟨by decide, _, w.ty, q⟩
  all_goals exact Sel.no rfl q
theorem len_is_stamp (K : PySem.W.Frag) (A : Adr) : ∀ vs H Q E, sp_is_stamp K A vs H Q E → vs.length = 1 := by rintro vs H Q E ⟨v, d, rfl, _⟩; rfl
theorem rd_is_stamp (T : Txt K mg A) (vs : List V) (H : Hp) (Q : VK) (E : XK) (h : sp_is_stamp K A vs H Q E) : T_is_stamp K A { nx := fun _ H' => Q .non H', rt := Q } (start ["thing"] vs) H := by
  obtain ⟨v, d, rfl, w, q⟩ := h
  refine ⟨v, d, rfl, w, ?_⟩
  cases w with
  | int i =>
    refine Sel.yes rfl (Sel.dec (fun h0 => ⟨⟨by decide, by decide, by decide⟩, ?_⟩) (fun h0 => ?_))
    · show Q (.bl (decide (i < 10 ^ ((60 : Int).toNat)))) H
      have e : isStampD (.int i) = decide (i < 10 ^ ((60 : Int).toNat)) := by
        show decide (0 ≤ i ∧ i < 10 ^ 60) = decide (i < 10 ^ 60)
        by_cases h1 : i < 10 ^ 60
        · rw [decide_eq_true h1, decide_eq_true ⟨h0, h1⟩]
        · rw [decide_eq_false h1, decide_eq_false fun z => h1 z.2]
      rw [← e]; exact q
    · have e : isStampD (.int i) = false := decide_eq_false fun z => h0 z.1
      rw [← e]; exact q
  | non => exact Sel.no rfl ⟨by decide, _, rfl, q⟩
  | bl b => exact Sel.no rfl ⟨by decide, _, rfl, q⟩
  | str z => exact Sel.no rfl ⟨by decide, _, rfl, q⟩
  | lst e r => exact Sel.no rfl ⟨by decide, _, (DatW.lst e r).ty, q⟩
  | tup e r => exact Sel.no rfl ⟨by decide, _, (DatW.tup e r).ty, q⟩
  | dic e => exact Sel.no rfl ⟨by decide, _, (DatW.dic e).ty, q⟩
theorem len_start (K : PySem.W.Frag) (A : Adr) : ∀ vs H Q E, sp_start K A vs H Q E → vs.length = 3 := by rintro vs H Q E ⟨b, k, d, rfl, _⟩; rfl
theorem rd_start (T : Txt K mg A) (vs : List V) (H : Hp) (Q : VK) (E : XK) (h : sp_start K A vs H Q E) : T_start K A { nx := fun _ H' => Q .non H', rt := Q } (L2.start ["bits", "key", "depth"] vs) H := by
  obtain ⟨b, k, d, rfl, hd, q⟩ := h
  exact ⟨by omega, q⟩
theorem len_is_key (K : PySem.W.Frag) (A : Adr) : ∀ vs H Q E, sp_is_key K A vs H Q E → vs.length = 2 := by rintro vs H Q E ⟨b, v, d, rfl, _⟩; rfl
theorem rd_is_key (T : Txt K mg A) (vs : List V) (H : Hp) (Q : VK) (E : XK) (h : sp_is_key K A vs H Q E) : T_is_key K A { nx := fun _ H' => Q .non H', rt := Q } (L2.start ["bits", "thing"] vs) H := by
  obtain ⟨b, v, d, rfl, h0, h1, w, q⟩ := h
  refine ⟨v, d, rfl, w, ?_⟩
  cases w with
  | int i =>
    refine Sel.yes rfl (Sel.dec (fun h2 => ⟨⟨h0, by omega, by decide⟩, ?_⟩) (fun h2 => ?_))
    · show Q (.bl (decide (i < 1 * 2 ^ b.toNat))) H
      have e : isKeyD b (.int i) = decide (i < 1 * 2 ^ b.toNat) := by
        show decide (0 ≤ i ∧ i < 2 ^ b.toNat) = _
        rw [Int.one_mul]
        by_cases h1 : i < 2 ^ b.toNat
        · rw [decide_eq_true h1, decide_eq_true ⟨h2, h1⟩]
        · rw [decide_eq_false h1, decide_eq_false fun z => h1 z.2]
      rw [← e]; exact q
    · have e : isKeyD b (.int i) = false := decide_eq_false fun z => h2 z.1
      rw [← e]; exact q
  | _ => exact Sel.no rfl q
theorem len_is_value (K : PySem.W.Frag) (A : Adr) : ∀ vs H Q E, sp_is_value K A vs H Q E → vs.length = 1 := by rintro vs H Q E ⟨v, d, rfl, _⟩; rfl
theorem rd_is_value (T : Txt K mg A) (vs : List V) (H : Hp) (Q : VK) (E : XK) (h : sp_is_value K A vs H Q E) : T_is_value K A { nx := fun _ H' => Q .non H', rt := Q } (L2.start ["thing"] vs) H := by
  obtain ⟨v, d, rfl, w, ok, q⟩ := h
  refine ⟨by decide, _, w.ty, ?_⟩
  cases w with
  | str z =>
    have hl := of_decide_eq_true (Bool.and_eq_true_iff.mp ok).2
    refine Sel.yes rfl (.inl ⟨line_ge (by omega), ?_⟩)
    have e : isValueD (.str z) = decide ((z.length : Int) ≤ 60) := by
      show decide (z.length ≤ 60) = _
      by_cases h1 : z.length ≤ 60
      · rw [decide_eq_true h1, decide_eq_true (by omega)]
      · rw [decide_eq_false h1, decide_eq_false (by omega)]
    show Q (.bl (decide ((z.length : Int) ≤ 60))) H
    rw [← e]; exact q
  | _ => exact Sel.no rfl q
theorem isStep_eq (b l i : Int) (m : Dat) : isStepD b l (.tup [.int i, m]) = (decide (l ≤ i ∧ i < b) && isStampD m) := rfl
theorem len_is_step (K : PySem.W.Frag) (A : Adr) : ∀ vs H Q E, sp_is_step K A vs H Q E → vs.length = 3 := by rintro vs H Q E ⟨b, l, v, d, rfl, _⟩; rfl
theorem rd_is_step (T : Txt K mg A) (vs : List V) (H : Hp) (Q : VK) (E : XK) (h : sp_is_step K A vs H Q E) : T_is_step K A { nx := fun _ H' => Q .non H', rt := Q } (L2.start ["bits", "least", "thing"] vs) H := by
  obtain ⟨b, l, v, d, rfl, w, q⟩ := h
  refine ⟨by decide, _, w.ty, ?_⟩
  cases w with
  | @tup a xs ds e r =>
    refine Sel.no rfl (.inl (.inr (.inl ⟨_, SqT.of e, ?_⟩)))
    have el := r.len
    refine Sel.ndec (fun hne => ?_) (fun he => ?_)
    · have e2 : isStepD b l (.tup ds) = false := by
        unfold isStepD
        split
        · rename_i heq; cases heq; simp at el; omega
        · rfl
      show Q (.bl false) H
      rw [← e2]; exact q
    · cases r with
      | nil => simp at he
      | cons w0 r =>
        cases r with
        | nil => simp at he
        | cons w1 r =>
          cases r with
          | cons _ _ => simp at he; omega
          | nil =>
            refine ixT (j := 0) e rfl rfl ⟨_, _, rfl, w0, ?_⟩
            cases w0 with
            | int i =>
              refine Sel.yes rfl (ixT (j := 0) e rfl rfl (Sel.dec (fun h1 => ?_) (fun h1 => ?_)))
              · refine Sel.dec (fun h2 => ?_) (fun h2 => ?_)
                · refine ixT (j := 1) e rfl rfl ⟨_, _, rfl, w1, ?_⟩
                  rw [isStep_eq, decide_eq_true ⟨h1, h2⟩] at q; exact q
                · rw [isStep_eq, decide_eq_false (fun z => h2 z.2)] at q; exact q
              · rw [isStep_eq, decide_eq_false (fun z => h1 z.1)] at q; exact Sel.no rfl q
            | _ => exact Sel.no rfl q
  | _ => exact Sel.yes rfl (Sel.t q)
end Rs
namespace Rs
open PySem PySem.Spec PyProof.Rows L2
theorem isStep_shape {b l : Int} {d : Dat} (h : isStepD b l d = true) : ∃ i m, d = .tup [.int i, m] := by
  unfold isStepD at h
  split at h
  · exact ⟨_, _, rfl⟩
  · cases h
theorem dp_mem {d : Dat} {ds : List Dat} (hm : d ∈ ds) : (toPy d).depth ≤ PyData.depthAll (toPys ds) := by
  induction ds with
  | nil => cases hm
  | cons x r ih =>
    show _ ≤ max (toPy x).depth (PyData.depthAll (toPys r))
    rcases List.mem_cons.mp hm with rfl | hm
    · omega
    · have := ih hm; omega
theorem ok_mem {d : Dat} {ds : List Dat} (h : okDs ds = true) (hm : d ∈ ds) : okD d = true := by
  induction ds with
  | nil => cases hm
  | cons x r ih =>
    have h : (okD x && okDs r) = true := h
    rw [Bool.and_eq_true] at h
    rcases List.mem_cons.mp hm with rfl | hm
    · exact h.1
    · exact ih h.2 hm
theorem endOk.tup {ds : List Dat} (h : endOk (.tup ds)) : okDs ds = true ∧ PyData.depthAll (toPys ds) ≤ 139 := by
  rcases h with ⟨h1, h2⟩ | h
  · exact ⟨h1, by have h2 : PyData.depthAll (toPys ds) + 1 ≤ 140 := h2; omega⟩
  · cases h
theorem eq_bare {K : PySem.W.Frag} {H : Hp} {v : V} {d : Dat} {p : Addr} {Q : VK} (w : DatW H v d) (ok : endOk d) (hp : H p = some (.tup [.str "bare"])) (q : Q (.bl (isBareD d)) H) : mEqC K v (.ref p) H Q := by
  have dv : DatV K H (.ref p) (.tuple [.str "bare"]) := .tup (SqT.of hp) (.cons (.str _) .nil)
  have lv : (PyData.tuple [.str "bare"]).canLay0 = true := by decide +kernel
  rcases ok with ⟨ok, dp⟩ | rfl
  · have hd : ∀ e : (toPy d).eqv (.tuple [.str "bare"]) = isBareD d, rEqD K v (.ref p) H Q := fun e => ⟨_, _, w.toV ok, dv, lay_toPy ok, lv, by omega, by rw [e]; exact q⟩
    cases w with
    | non => exact hd rfl
    | bl b => exact hd rfl
    | int i => exact hd rfl
    | str z => exact hd rfl
    | lst e r => exact .inr (.inl (hd rfl))
    | @tup a xs ds e r =>
      refine .inr (.inl (hd ?_))
      clear hd r ok dp q
      cases ds with
      | nil => rfl
      | cons x rs =>
        cases rs with
        | nil =>
          show ((toPy x).eqv (.str "bare") && true) = isStrD "bare" x
          rw [Bool.and_true]
          cases x with
          | str z =>
            show (z == ("bare" : Str)) = decide (z = "bare")
            by_cases h : z = "bare" <;> simp [h]
          | _ => rfl
        | cons y rs =>
          show ((toPy x).eqv (.str "bare") && false) = false
          rw [Bool.and_false]
    | dic e => cases ok
  · cases w with
    | dic e => exact .inr (.inr ⟨_, p, _, rfl, rfl, e, SqT.of hp, q⟩)
variable {K : PySem.W.Frag} {mg : Str → Option Value} {A : Adr}
theorem len_are_steps (K : PySem.W.Frag) (A : Adr) : ∀ vs H Q E, sp_are_steps K A vs H Q E → vs.length = 2 := by rintro vs H Q E ⟨b, v, d, rfl, _⟩; rfl
theorem rd_are_steps (T : Txt K mg A) (vs : List V) (H : Hp) (Q : VK) (E : XK) (h : sp_are_steps K A vs H Q E) : T_are_steps K A { nx := fun _ H' => Q .non H', rt := Q } (L2.start ["bits", "thing", "least", "step"] vs) H := by
  obtain ⟨b, v, d, rfl, w, q⟩ := h
  refine ⟨by decide, _, w.ty, ?_⟩
  cases w with
  | @tup a xs ds e r =>
    have q : Q (.bl (areStepsD b 0 ds)) H := q
    refine Sel.no rfl ⟨a, rfl, .inr ⟨⟨_, SqT.of e⟩, ?_⟩⟩
    have el := r.len
    refine for_tup (xs := xs) (fun i σ H' => H' = H ∧ ∃ l x3, σ = [some (.int b), some (.ref a), some (.int l), x3] ∧ areStepsD b 0 ds = areStepsD b l (ds.drop i)) ⟨rfl, 0, none, rfl, rfl⟩ ?_ ?_ ?_
    · rintro i σ _ _ ⟨rfl, _⟩; exact SqT.of e
    · rintro i x σ _ hx ⟨rfl, l, x3, rfl, eq⟩
      obtain ⟨d, hd, wx⟩ := r.get hx
      have hi : i < ds.length := (List.getElem?_eq_some_iff.mp hd).1
      have dr : ds.drop i = d :: ds.drop (i + 1) := by
        rw [List.drop_eq_getElem_cons hi]
        rw [List.getElem?_eq_getElem hi] at hd; rw [Option.some.inj hd]
      rw [dr] at eq
      have eq : areStepsD b 0 ds = (isStepD b l d && areStepsD b (depthOf d + 1) (ds.drop (i + 1))) := eq
      refine ⟨b, l, x, d, rfl, wx, Sel.mk (fun hf => ?_) (fun ht => ?_)⟩
      · have hf : isStepD b l d = false := by simpa using hf
        rw [hf] at eq
        rw [eq] at q; exact q
      · have ht : isStepD b l d = true := by simpa using ht
        obtain ⟨i0, m, rfl⟩ := isStep_shape ht
        cases wx with
        | tup ex rx =>
          cases rx with
          | cons w0 rx =>
            cases w0
            refine ixT (j := 0) ex rfl rfl ⟨rfl, _, _, rfl, ?_⟩
            rw [ht] at eq; exact eq
    · rintro σ _ ⟨rfl, l, x3, rfl, eq⟩
      rw [List.drop_eq_nil_of_le (by omega)] at eq
      rw [eq] at q; exact q
  | _ => exact Sel.yes rfl q
theorem len_is_leaf (K : PySem.W.Frag) (A : Adr) : ∀ vs H Q E, sp_is_leaf K A vs H Q E → vs.length = 4 := by rintro vs H Q E ⟨b, p, g, v, d, rfl, _⟩; rfl
theorem rd_is_leaf (T : Txt K mg A) (vs : List V) (H : Hp) (Q : VK) (E : XK) (h : sp_is_leaf K A vs H Q E) : T_is_leaf K A { nx := fun _ H' => Q .non H', rt := Q } (L2.start ["bits", "depth", "begin", "thing"] vs) H := by
  obtain ⟨b, p, g, v, d, rfl, b0, b60, hp, w, ok, q⟩ := h
  refine ⟨by decide, _, w.ty, ?_⟩
  cases w with
  | @tup a xs ds e r =>
    obtain ⟨ok, dp⟩ := ok.tup
    have el := r.len
    refine Sel.no rfl (.inl (.inr (.inl ⟨_, SqT.of e, Sel.ndec (fun ne => Sel.t ?_) (fun he => ?_)⟩)))
    · have e2 : isLeafD b p g (.tup ds) = false := by
        unfold isLeafD
        split
        · rename_i heq; cases heq; simp at el; omega
        · rfl
      rw [e2] at q; exact q
    · cases r with
      | nil => simp at he
      | @cons x0 _ d0 _ w0 r =>
      cases r with
      | nil => simp at he
      | @cons x1 _ d1 _ w1 r =>
      cases r with
      | nil => simp at he
      | @cons x2 _ d2 _ w2 r =>
      cases r with
      | cons _ _ => simp at he; omega
      | nil =>
      have o0 := ok_mem ok (d := d0) (by simp)
      have p0 := dp_mem (d := d0) (ds := [d0, d1, d2]) (by simp)
      have o2 := ok_mem ok (d := d2) (by simp)
      refine ixT (j := 0) e rfl rfl (ne_word w0 o0 (by omega) (by decide +kernel) (Sel.mk (fun hn => ?_) (fun hy => ?_)))
      · have hn : isStrD "leaf" d0 = false := by simpa using hn
        have e2 : isLeafD b p g (.tup [d0, d1, d2]) = false := by
          cases d1 <;> first | rfl | (show (isStrD "leaf" d0 && _ && _ && _) = false; rw [hn]; rfl)
        rw [e2] at q; exact q
      · have hy : isStrD "leaf" d0 = true := by simpa using hy
        refine ixT (j := 1) e rfl rfl ⟨b, x1, d1, rfl, b0, b60, w1, ?_⟩
        cases w1 with
        | int k =>
          have e2 : isLeafD b p g (.tup [d0, .int k, d2]) = (decide (0 ≤ k ∧ k < 2 ^ b.toNat) && isValueD d2 && decide (startI b k p = g)) := by
            show (isStrD "leaf" d0 && _ && _ && _) = _
            rw [hy]; simp
          rw [e2] at q
          refine Sel.mk (fun hk => Sel.t ?_) (fun hk => ?_)
          · have hk : isKeyD b (.int k) = false := by simpa only [Bool.not_eq_true'] using hk
            have hk : decide (0 ≤ k ∧ k < 2 ^ b.toNat) = false := hk
            rw [hk] at q; exact q
          · have hk : isKeyD b (.int k) = true := by simpa only [Bool.not_eq_false'] using hk
            have hk : decide (0 ≤ k ∧ k < 2 ^ b.toNat) = true := hk
            rw [hk, Bool.true_and] at q
            refine ixT (j := 2) e rfl rfl ⟨x2, d2, rfl, w2, o2, ?_⟩
            refine Sel.mk (fun hv => ?_) (fun hv => ?_)
            · have hv : isValueD d2 = false := by simpa using hv
              rw [hv] at q; exact q
            · have hv : isValueD d2 = true := by simpa using hv
              rw [hv, Bool.true_and] at q
              exact ixT (j := 1) e rfl rfl ⟨b, k, p, rfl, hp, q⟩
        | _ => exact Sel.t (Sel.t q)
  | _ => exact Sel.yes rfl (Sel.t q)
theorem len_is_fork (K : PySem.W.Frag) (A : Adr) : ∀ vs H Q E, sp_is_fork K A vs H Q E → vs.length = 4 := by rintro vs H Q E ⟨b, p, g, v, d, rfl, _⟩; rfl
theorem rd_is_fork (T : Txt K mg A) (vs : List V) (H : Hp) (Q : VK) (E : XK) (h : sp_is_fork K A vs H Q E) : T_is_fork K A { nx := fun _ H' => Q .non H', rt := Q } (L2.start ["bits", "depth", "begin", "thing"] vs) H := by
  obtain ⟨b, p, g, v, d, rfl, p0, b60, hp, w, ok, q⟩ := h
  refine ⟨by decide, _, w.ty, ?_⟩
  cases w with
  | @tup a xs ds e r =>
    obtain ⟨ok, dp⟩ := ok.tup
    have el := r.len
    refine Sel.no rfl (.inl (.inr (.inl ⟨_, SqT.of e, Sel.ndec (fun ne => Sel.t ?_) (fun he => ?_)⟩)))
    · have e2 : isForkD b p g (.tup ds) = false := by
        unfold isForkD
        split
        · rename_i heq; cases heq; simp at el; omega
        · rfl
      rw [e2] at q; exact q
    · cases r with
      | nil => simp at he
      | @cons x0 _ d0 _ w0 r =>
      cases r with
      | nil => simp at he
      | @cons x1 _ d1 _ w1 r =>
      cases r with
      | nil => simp at he
      | @cons x2 _ d2 _ w2 r =>
      cases r with
      | nil => simp at he
      | @cons x3 _ d3 _ w3 r =>
      cases r with
      | nil => simp at he
      | @cons x4 _ d4 _ w4 r =>
      cases r with
      | cons _ _ => simp at he; omega
      | nil =>
      have o0 := ok_mem ok (d := d0) (by simp)
      have pp := dp_mem (d := d0) (ds := [d0, d1, d2, d3, d4]) (by simp)
      refine ixT (j := 0) e rfl rfl (ne_word w0 o0 (by omega) (by decide +kernel) (Sel.mk (fun hn => ?_) (fun hy => ?_)))
      · have hn : isStrD "fork" d0 = false := by simpa using hn
        have e2 : isForkD b p g (.tup [d0, d1, d2, d3, d4]) = false := by
          cases d1 <;> first | rfl | (cases d2 <;> first | rfl | (show (isStrD "fork" d0 && _ && _ && _) = false; rw [hn]; rfl))
        rw [e2] at q; exact q
      · have hy : isStrD "fork" d0 = true := by simpa using hy
        refine ixT (j := 1) e rfl rfl ⟨x1, d1, rfl, w1, ?_⟩
        cases w1 with
        | int ee =>
          refine Sel.no rfl (ixT (j := 1) e rfl rfl ?_)
          have bad : decide (p ≤ ee ∧ ee < b) = false → isForkD b p g (.tup [d0, .int ee, d2, d3, d4]) = false := fun z => by
            cases d2 <;> first | rfl | (show (isStrD "fork" d0 && _ && _ && _) = false; rw [z]; simp)
          refine Sel.dec (fun h1 => Sel.ndec (fun h2 => ?_) (fun h2 => ?_)) (fun h1 => ?_)
          · rw [bad (decide_eq_false fun z => h2 z.2)] at q; exact q
          · refine ixT (j := 2) e rfl rfl ⟨x2, d2, rfl, w2, ?_⟩
            cases w2 with
            | int bb =>
              have e2 : isForkD b p g (.tup [d0, .int ee, .int bb, d3, d4]) = (decide (0 ≤ bb ∧ bb < 2 ^ ee.toNat) && decide (bb / 2 ^ (ee - p).toNat = g)) := by
                show (isStrD "fork" d0 && decide (p ≤ ee ∧ ee < b) && _ && _) = _
                rw [hy, decide_eq_true ⟨h1, h2⟩]; simp
              rw [e2] at q
              refine Sel.no rfl (ixT (j := 2) e rfl rfl ?_)
              refine Sel.dec (fun h3 => ixT (j := 1) e rfl rfl ⟨⟨by omega, by omega, by decide⟩, Sel.mk (fun h4 => ?_) (fun h4 => ?_)⟩) (fun h3 => ?_)
              · rw [Int.one_mul] at h4
                have h4 : ¬ bb < 2 ^ ee.toNat := by simpa using h4
                rw [decide_eq_false (fun z => h4 z.2)] at q; exact q
              · rw [Int.one_mul] at h4
                have h4 : bb < 2 ^ ee.toNat := by simpa using h4
                rw [decide_eq_true ⟨h3, h4⟩, Bool.true_and] at q
                exact ixT (j := 2) e rfl rfl (ixT (j := 1) e rfl rfl ⟨by omega, q⟩)
              · rw [decide_eq_false (fun z => h3 z.1)] at q; exact Sel.yes rfl q
            | _ => exact Sel.yes rfl (Sel.t q)
          · rw [bad (decide_eq_false fun z => h1 z.1)] at q; exact Sel.yes rfl q
        | _ => exact Sel.yes rfl (Sel.t q)
  | _ => exact Sel.yes rfl (Sel.t q)
end Rs
namespace Rs
open PySem PySem.Spec PyProof.Rows L2
theorem isFork_shape {b p g : Int} {d : Dat} (h : isForkD b p g d = true) : ∃ w e bb m n, d = .tup [w, .int e, .int bb, m, n] ∧ p ≤ e ∧ e < b := by
  unfold isForkD at h
  split at h
  · rename_i w e bb m n
    simp only [Bool.and_eq_true, decide_eq_true_eq] at h
    exact ⟨w, e, bb, m, n, rfl, h.1.1.2.1, h.1.1.2.2⟩
  · cases h
variable {K : PySem.W.Frag} {mg : Str → Option Value} {A : Adr}
theorem len_is_end (K : PySem.W.Frag) (A : Adr) : ∀ vs H Q E, sp_is_end K A vs H Q E → vs.length = 4 := by rintro vs H Q E ⟨b, k, p, v, d, rfl, _⟩; rfl
theorem rd_is_end (T : Txt K mg A) (vs : List V) (H : Hp) (Q : VK) (E : XK) (h : sp_is_end K A vs H Q E) : T_is_end K A { nx := fun _ H' => Q .non H', rt := Q } (L2.start ["bits", "key", "place", "thing", "begin"] vs) H := by
  obtain ⟨b, k, p, v, d, rfl, p0, b60, hp, w, ok, q⟩ := h
  refine ⟨line_ge (n := 1) (by decide), fun r hr => ?_⟩
  have S := Same.upd (o := .tup [V.str "bare"]) hr
  have q := q _ S
  have w := w.mono S
  refine eq_bare w ok upd_same ?_
  generalize upd H r (.tup [V.str "bare"]) = H1 at w q ⊢
  unfold isEndD at q
  refine Sel.mk (fun hb => ?_) (fun hb => ?_)
  · rw [hb, if_pos rfl] at q; exact q
  · rw [hb] at q
    have q : Q (.bl (isLeafD b p (startI b k p) d || (isForkD b p (startI b k p) d && tailD b k d))) H1 := q
    refine ⟨b, k, p, rfl, hp, b, p, startI b k p, v, d, rfl, by omega, b60, hp, w, ok, ?_⟩
    refine Sel.mk (fun hl => ?_) (fun hl => ?_)
    · rw [hl, Bool.true_or] at q; exact q
    · rw [hl, Bool.false_or] at q
      refine ⟨b, p, startI b k p, v, d, rfl, p0, b60, hp, w, ok, ?_⟩
      refine Sel.mk (fun hf => ?_) (fun hf => ?_)
      · have hf : isForkD b p (startI b k p) d = false := by simpa only [Bool.not_eq_true'] using hf
        rw [hf, Bool.false_and] at q; exact q
      · have hf : isForkD b p (startI b k p) d = true := by simpa only [Bool.not_eq_false'] using hf
        rw [hf, Bool.true_and] at q
        obtain ⟨w0, e, bb, m, n, rfl, h1, h2⟩ := isFork_shape hf
        have q : Q (.bl (!decide (bb = startI b k e) && isStampD m && isStampD n)) H1 := q
        cases w with
        | tup ea r =>
        cases r with
        | cons _ r =>
        cases r with
        | cons z1 r =>
        cases r with
        | cons z2 r =>
        cases r with
        | cons z3 r =>
        cases r with
        | cons z4 r =>
        cases r
        cases z1
        cases z2
        refine ixT (j := 2) ea rfl rfl (ixT (j := 1) ea rfl rfl ⟨b, k, e, rfl, by omega, ?_⟩)
        refine Sel.dec (fun he => ?_) (fun he => ?_)
        · rw [decide_eq_true he] at q; exact q
        · rw [decide_eq_false he] at q
          refine ixT (j := 3) ea rfl rfl ⟨_, _, rfl, z3, Sel.mk (fun hm => ?_) (fun hm => ?_)⟩
          · rw [hm] at q
            exact ixT (j := 4) ea rfl rfl ⟨_, _, rfl, z4, q⟩
          · rw [hm] at q; exact q
theorem areSteps_last {b : Int} : ∀ {ds : List Dat} {l : Int}, 0 ≤ l → areStepsD b l ds = true → ∀ {s}, ds.getLast? = some s → ∃ i m, s = .tup [.int i, m] ∧ 0 ≤ i ∧ i < b
  | [], l, _, _, s, e => by cases e
  | x :: r, l, hl, h, s, e => by
    have h : (isStepD b l x && areStepsD b (depthOf x + 1) r) = true := h
    rw [Bool.and_eq_true] at h
    obtain ⟨i, m, rfl⟩ := isStep_shape h.1
    have hi : (decide (l ≤ i ∧ i < b) && isStampD m) = true := h.1
    rw [Bool.and_eq_true, decide_eq_true_eq] at hi
    cases r with
    | nil =>
      cases e
      exact ⟨i, m, rfl, by omega, hi.1.2⟩
    | cons y r =>
      rw [List.getLast?_cons_cons] at e
      exact areSteps_last (l := i + 1) (by omega) h.2 e
theorem len_is_slip (K : PySem.W.Frag) (A : Adr) : ∀ vs H Q E, sp_is_slip K A vs H Q E → vs.length = 3 := by rintro vs H Q E ⟨b, k, v, d, rfl, _⟩; rfl
theorem rd_is_slip (T : Txt K mg A) (vs : List V) (H : Hp) (Q : VK) (E : XK) (h : sp_is_slip K A vs H Q E) : T_is_slip K A { nx := fun _ H' => Q .non H', rt := Q } (L2.start ["bits", "key", "thing", "place"] vs) H := by
  obtain ⟨b, k, v, d, rfl, b0, b60, w, ok, q⟩ := h
  have q0 := q H (.refl H)
  refine ⟨by decide, _, w.ty, ?_⟩
  cases w with
  | @tup a xs ds e r =>
    have el := r.len
    refine Sel.no rfl (.inl (.inr (.inl ⟨_, SqT.of e, Sel.ndec (fun ne => ?_) (fun he => ?_)⟩)))
    · have e2 : isSlipD b k (.tup ds) = false := by
        unfold isSlipD
        split
        · rename_i heq; cases heq; simp at el; omega
        · rfl
      rw [e2] at q0; exact q0
    · cases r with
      | nil => simp at he
      | @cons x0 _ d0 _ w0 r =>
      cases r with
      | nil => simp at he
      | @cons x1 _ d1 _ w1 r =>
      cases r with
      | cons _ _ => simp at he; omega
      | nil =>
      have ok : endOk d1 := ok
      refine ixT (j := 0) e rfl rfl ⟨b, x0, d0, rfl, w0, ?_⟩
      cases w0 with
      | @tup a0 ys es e0 r0 =>
        have q : ∀ H', Same H H' → Q (.bl (areStepsD b 0 es && isEndD b k (placeD es) d1)) H' := q
        refine Sel.mk (fun hs => ?_) (fun hs => ?_)
        · have hs : areStepsD b 0 es = false := by simpa only [Bool.not_eq_true'] using hs
          have q := q H (.refl H)
          rw [hs] at q; exact q
        · have hs : areStepsD b 0 es = true := by simpa only [Bool.not_eq_false'] using hs
          rw [hs] at q
          refine ixT (j := 0) e rfl rfl ⟨!ys.isEmpty, .inr (.inl ⟨ys, SqT.of e0, rfl⟩), ?_⟩
          have l0 := r0.len
          cases ys with
          | nil =>
            cases r0
            exact Sel.no rfl (ixT (j := 1) e rfl rfl ⟨b, k, 0, x1, d1, rfl, by decide, b60, b0, w1, ok, q⟩)
          | cons y yr =>
            obtain ⟨s, hsl⟩ : ∃ s, es.getLast? = some s := by
              cases es with
              | nil => simp at l0
              | cons z zr => exact ⟨_, List.getLast?_eq_some_getLast (by simp)⟩
            obtain ⟨i, m, rfl, i0, i1⟩ := areSteps_last (Int.le_refl 0) hs hsl
            have hlast : es[es.length - 1]? = some (.tup [.int i, m]) := by rw [← List.getLast?_eq_getElem?]; exact hsl
            have hpl : placeD es = i + 1 := by unfold placeD; rw [hsl]; rfl
            have hpos : 0 < (y :: yr).length := by simp
            obtain ⟨v', hv'⟩ : ∃ v', (y :: yr)[(y :: yr).length - 1]? = some v' := ⟨_, List.getElem?_eq_getElem (by omega)⟩
            obtain ⟨d', hd', wd'⟩ := r0.get hv'
            rw [l0] at hd'
            rw [hlast] at hd'; cases hd'
            refine Sel.yes rfl (ixT (j := 0) e rfl rfl ?_)
            refine .inl (.inr (.inl ⟨a0, y :: yr, -1, v', rfl, rfl, SqT.of e0, ?_, ?_⟩))
            · unfold atI ixN
              rw [if_neg (by decide), if_pos (by simp; omega)]
              show (y :: yr)[(-1 + ((y :: yr).length : Int)).toNat]? = _
              have : (-1 + ((y :: yr).length : Int)).toNat = (y :: yr).length - 1 := by omega
              rw [this]; exact hv'
            · cases wd' with
              | tup ee rr =>
                cases rr with
                | cons z0 rr =>
                  cases z0
                  refine ixT (j := 0) ee rfl rfl (ixT (j := 1) e rfl rfl ⟨b, k, i + 1, x1, d1, rfl, by omega, b60, by omega, w1, ok, ?_⟩)
                  rw [hpl] at q
                  exact q
      | _ => exact Sel.t q0
  | _ => exact Sel.yes rfl (Sel.t q0)
end Rs
namespace Rs
open PySem PySem.Spec PyProof.Rows L2
theorem bits64 {x : Int} (h : x.natAbs < 2 ^ 64) : Builtin.Int.intBits x ≤ 64 := by
  unfold Builtin.Int.intBits
  split
  · decide
  · rename_i hx
    have hx : x ≠ 0 := by simpa using hx
    have : x.natAbs.log2 < 64 := (Nat.log2_lt (by omega)).mpr h
    omega
theorem mulL {x y : Int} (h0 : 0 ≤ x) (h : x < 2 ^ 64) : IntMulOk x y := IntMulOk.of_left (bits64 (by omega))
theorem mulR {x y : Int} (h0 : 0 ≤ y) (h : y < 2 ^ 64) : IntMulOk x y := IntMulOk.of_right (bits64 (by omega))
variable {K : PySem.W.Frag} {mg : Str → Option Value} {A : Adr}
theorem len__law_at (K : PySem.W.Frag) (A : Adr) : ∀ vs H Q E, sp__law_at K A vs H Q E → vs.length = 2 := by rintro vs H Q E ⟨a, ns, k, rfl, _⟩; rfl
theorem rd__law_at (T : Txt K mg A) (vs : List V) (H : Hp) (Q : VK) (E : XK) (h : sp__law_at K A vs H Q E) : T__law_at K A { nx := fun _ H' => Q .non H', rt := Q } (L2.start ["_law_script", "_law_k", "_law_number", "_law_cell"] vs) H := by
  obtain ⟨a, ns, k, rfl, hs, h0, q⟩ := h
  refine .inl (.inl ⟨_, hs, Sel.dec (fun h => ?_) (fun h => ?_)⟩)
  · obtain ⟨v, hv⟩ := atI_ex h0 h
    obtain ⟨j, _, hj, _⟩ := atI_get hv
    obtain ⟨z, _, rfl⟩ := map_get hj
    exact .inl (.inl ⟨a, _, k, _, rfl, rfl, hs, hv, q z H (.refl H)⟩)
  · obtain ⟨zs, ez, hz⟩ := cutV_ints ns none (some 5)
    refine .inl (.inl ⟨_, hs, 5, rfl, .inl (.inl ⟨a, _, rfl, hs, fun p hp => ?_⟩)⟩)
    rw [ez]
    refine ⟨p, rfl, .inl ⟨⟨_, SqL.of upd_same⟩, ?_⟩⟩
    refine for_list (xs := zs.map V.int) (fun i σ H' => H' = upd H p (.lst (zs.map V.int)) ∧ ∃ n x3, σ = [some (.ref a), some (.int k), some (.int n), x3]) ⟨rfl, _, none, rfl⟩ ?_ ?_ ?_
    · rintro i σ _ _ ⟨rfl, _⟩; exact SqL.of upd_same
    · rintro i x σ _ hx ⟨rfl, n, x3, rfl⟩
      obtain ⟨z, _, rfl⟩ := map_get hx
      exact ⟨mulR (by decide) (by decide), by decide, rfl, _, _, rfl⟩
    · rintro σ _ ⟨rfl, n, x3, rfl⟩
      refine ⟨IntMulOk.of_left (by decide), by decide, ?_⟩
      have b0 : 0 ≤ (n + 7919 * k) % 1000003 := by omega
      have b1 : (n + 7919 * k) % 1000003 < 1000003 := by omega
      exact ⟨mulL b0 (by omega), by decide, q _ _ (Same.upd hp)⟩
theorem len__law_bits (K : PySem.W.Frag) (A : Adr) : ∀ vs H Q E, sp__law_bits K A vs H Q E → vs.length = 1 := by rintro vs H Q E ⟨c, rfl, _⟩; rfl
theorem rd__law_bits (T : Txt K mg A) (vs : List V) (H : Hp) (Q : VK) (E : XK) (h : sp__law_bits K A vs H Q E) : T__law_bits K A { nx := fun _ H' => Q .non H', rt := Q } (L2.start ["_law_cell"] vs) H := by
  obtain ⟨c, rfl, q⟩ := h
  refine ⟨⟨by decide, by decide⟩, line_ge (n := 3) (by decide), fun p hp => ⟨by decide, ?_⟩⟩
  have hc : c % 3 = 0 ∨ c % 3 = 1 ∨ c % 3 = 2 := by omega
  have S := Same.upd (o := .lst [V.int 60, .int 8, .int 60]) hp
  rcases hc with e | e | e <;> rw [e]
  · exact ixL (j := 0) upd_same rfl rfl ⟨by decide, q _ _ S (by omega) (by omega)⟩
  · exact ixL (j := 1) upd_same rfl rfl ⟨by decide, q _ _ S (by omega) (by omega)⟩
  · exact ixL (j := 2) upd_same rfl rfl ⟨by decide, q _ _ S (by omega) (by omega)⟩
theorem len__law_key (K : PySem.W.Frag) (A : Adr) : ∀ vs H Q E, sp__law_key K A vs H Q E → vs.length = 3 := by rintro vs H Q E ⟨b, c, o, rfl, _⟩; rfl
theorem rd__law_key (T : Txt K mg A) (vs : List V) (H : Hp) (Q : VK) (E : XK) (h : sp__law_key K A vs H Q E) : T__law_key K A { nx := fun _ H' => Q .non H', rt := Q } (L2.start ["_law_bits_here", "_law_cell", "_law_others", "_law_many", "_law_number", "_law_flip"] vs) H := by
  obtain ⟨b, c, o, rfl, b1, b60, ho, q⟩ := h
  have hp : (0 : Int) < 1 * 2 ^ b.toNat := by rw [Int.one_mul]; exact pow2_pos _
  have e1 : (1 : Int) * 2 ^ b.toNat = 2 ^ b.toNat := Int.one_mul _
  have fin : ∀ (n : Int) (H' : Hp), Same H H' → Q (.int (n % (1 * 2 ^ b.toNat))) H' := fun n H' s => q _ _ s (Int.emod_nonneg _ (Int.ne_of_gt hp)) (Int.lt_of_lt_of_le (Int.emod_lt_of_pos _ hp) (Int.le_of_eq e1))
  refine ⟨⟨by omega, by omega, by decide⟩, ⟨by decide, by decide⟩, by decide, Sel.dec (fun h => ?_) (fun h => ?_)⟩
  · exact ⟨hp, fin _ H (.refl H)⟩
  refine ⟨by decide, Sel.dec (fun h1 => ?_) (fun h1 => ?_)⟩
  · have h2 := Int.emod_nonneg (c / 5) (b := 1 * 2 ^ b.toNat) (by omega)
    have h3 := Int.emod_lt_of_pos (c / 5) hp
    exact ⟨hp, q _ _ (.refl H) (by omega) (Int.lt_of_lt_of_le (b := 1 * 2 ^ b.toNat) (by omega) (Int.le_of_eq e1))⟩
  refine ⟨by decide, Sel.dec (fun h2 => ?_) (fun h2 => Sel.f ?_)⟩
  · refine ⟨line_ge (n := 0) (by decide), fun p hp' => ⟨_, _, .lst (SqL.of (Same.upd hp' _ _ ho)) .nil, .lst (SqL.of upd_same) .nil, rfl, rfl, by decide, Sel.no rfl ?_⟩⟩
    exact ⟨mulR (by decide) (by decide), hp, fin _ _ (Same.upd hp')⟩
  · exact ⟨mulR (by decide) (by decide), hp, fin _ H (.refl H)⟩
theorem len__law_mark (K : PySem.W.Frag) (A : Adr) : ∀ vs H Q E, sp__law_mark K A vs H Q E → vs.length = 1 := by rintro vs H Q E ⟨c, rfl, _⟩; rfl
theorem str50 : ∀ n : Fin 50, okD (.str (("m" : Str) ++ Str.ofString (toString (((n : Nat) : Int))))) = true ∧ (Str.ofString (toString (((n : Nat) : Int)))).length ≤ 2 := by decide +kernel
theorem stampI {i : Int} (h0 : 0 ≤ i) (h1 : i < 10 ^ 60) : stampK (.inl i) := ⟨decide_eq_true ⟨h0, h1⟩, rfl⟩
theorem rd__law_mark (T : Txt K mg A) (vs : List V) (H : Hp) (Q : VK) (E : XK) (h : sp__law_mark K A vs H Q E) : T__law_mark K A { nx := fun _ H' => Q .non H', rt := Q } (L2.start ["_law_number"] vs) H := by
  obtain ⟨c, rfl, q⟩ := h
  refine ⟨mulR (by decide) (by decide), by decide, ?_⟩
  have n0 : 0 ≤ c * 69621 % 1000003 := by omega
  have n1 : c * 69621 % 1000003 < 1000003 := by omega
  show tSeq _ _ _ [some (V.int (c * 69621 % 1000003))] H
  generalize c * 69621 % 1000003 = n at n0 n1 ⊢
  have big : (1000003 : Int) * 10 ^ 30 < 10 ^ 60 := by decide +kernel
  have p30 : (0 : Int) < 10 ^ 30 := by decide +kernel
  have p60 : (1000003 : Int) < 10 ^ 60 := by decide +kernel
  refine ⟨by decide, Sel.dec (fun h => ?_) (fun h => ?_)⟩
  · have l0 : 0 ≤ n % 50 := by omega
    have l1 : n % 50 < 50 := by omega
    obtain ⟨j, hj⟩ := Int.eq_ofNat_of_zero_le l0
    obtain ⟨s1, s2⟩ := str50 ⟨j, by omega⟩
    have s1 : okD (.str (("m" : Str) ++ Str.ofString (toString ((j : Nat) : Int)))) = true := s1
    have s2 : (Str.ofString (toString ((j : Nat) : Int))).length ≤ 2 := s2
    refine ⟨by decide, ?_⟩
    rw [hj]
    exact ⟨Nat.lt_of_le_of_lt (Nat.log2_le_self _) (by omega), Nat.le_trans (Nat.add_le_add (Nat.le_refl 1) s2) (line_ge (by decide)), q (.inr _) ⟨rfl, s1⟩⟩
  refine ⟨by decide, Sel.dec (fun h1 => ?_) (fun h1 => ?_)⟩
  · exact ⟨⟨by decide, by decide⟩, by decide, q (.inl _) (stampI (by omega) (by omega))⟩
  refine ⟨by decide, Sel.dec (fun h2 => ?_) (fun h2 => ?_)⟩
  · refine ⟨⟨by decide, by decide, by decide⟩, mulL n0 (by omega), q (.inl _) (stampI ?_ ?_)⟩
    · exact Int.mul_nonneg n0 (Int.le_of_lt p30)
    · have : n * 10 ^ 30 < 1000003 * 10 ^ 30 := Int.mul_lt_mul_of_pos_right n1 p30
      show n * 10 ^ 30 < 10 ^ 60
      omega
  · refine ⟨⟨by decide, by decide, by decide⟩, q (.inl _) (stampI ?_ ?_)⟩
    · show 0 ≤ (10 : Int) ^ 60 - 1 - n
      omega
    · show (10 : Int) ^ 60 - 1 - n < 10 ^ 60
      omega
theorem len__law_deep (K : PySem.W.Frag) (A : Adr) : ∀ vs H Q E, sp__law_deep K A vs H Q E → vs.length = 1 := by rintro vs H Q E ⟨v, d, rfl, _⟩; rfl
theorem rd__law_deep (T : Txt K mg A) (vs : List V) (H : Hp) (Q : VK) (E : XK) (h : sp__law_deep K A vs H Q E) : T__law_deep K A { nx := fun _ H' => Q .non H', rt := Q } (L2.start ["_law_thing", "_law_k"] vs) H := by
  obtain ⟨v, d, rfl, w, ok, dp, q⟩ := h
  refine ⟨60, rfl, by decide, by decide, ?_⟩
  refine for_range (fun i σ H' => ∃ v' d' x1, σ = [some v', x1] ∧ Same H H' ∧ DatW H' v' d' ∧ okD d' = true ∧ (toPy d').depth ≤ 10 + i ∧ (0 < i → ∃ ds, d' = .lst ds)) ⟨v, d, none, rfl, .refl H, w, ok, dp, fun h => by omega⟩ ?_ ?_
  · rintro i σ H1 hi ⟨v', d', x1, rfl, S, w', ok', dp', _⟩
    refine ⟨line_ge (n := 1) (by decide), fun p hp => ⟨.ref p, .lst [d'], _, rfl, S.trans (Same.upd hp), .lst upd_same (.cons (w'.mono (Same.upd hp)) .nil), ?_, ?_, fun _ => ⟨_, rfl⟩⟩⟩
    · show (okD d' && true) = true
      rw [ok']; rfl
    · show max (toPy d').depth 0 + 1 ≤ 10 + (i + 1)
      omega
  · rintro σ H1 ⟨v', d', x1, rfl, S, w', ok', dp', hl⟩
    obtain ⟨ds, rfl⟩ := hl (by decide)
    exact q v' ds H1 S w' ok' (by have : PyData.depthAll (toPys ds) + 1 ≤ 10 + (60 : Int).toNat := dp'; simp at this; omega)
end Rs
namespace Rs
open PySem PySem.Spec PyProof.Rows L2
theorem repl_div {k W t : Int} (hW : 0 < W) (t0 : 0 ≤ t) (t1 : t < W) : (k - k % W + t) / W = k / W := by
  have e := Int.mul_ediv_add_emod k W
  have : k - k % W + t = W * (k / W) + t := by omega
  rw [this, Int.mul_add_ediv_left _ _ (by omega), Int.ediv_eq_zero_of_lt t0 t1, Int.add_zero]
theorem repl_lo {k W t : Int} (hW : 0 < W) (k0 : 0 ≤ k) (t0 : 0 ≤ t) : 0 ≤ k - k % W + t := by
  have e := Int.mul_ediv_add_emod k W
  have h := Int.mul_nonneg (Int.le_of_lt hW) (Int.ediv_nonneg k0 (Int.le_of_lt hW))
  omega
theorem repl_hi {k W t M : Int} (hW : 0 < W) (t1 : t < W) (hk : k < M * W) : k - k % W + t < M * W := by
  have e := Int.mul_ediv_add_emod k W
  have h := Int.ediv_lt_of_lt_mul hW hk
  have h2 : W * (k / W + 1) ≤ W * M := Int.mul_le_mul_of_nonneg_left (by omega) (Int.le_of_lt hW)
  rw [Int.mul_add, Int.mul_one, Int.mul_comm W M] at h2
  omega
theorem turn_ne {r t W : Int} (r0 : 0 ≤ r) (r1 : r < W) (t0 : 0 ≤ t) (t1 : t < W - 1) : (r + 1 + t) % W ≠ r := by
  by_cases h : r + 1 + t < W
  · rw [Int.emod_eq_of_lt (by omega) h]; omega
  · have e : (r + 1 + t) % W = r + 1 + t - W := by
      have := Int.add_emod_right (r + 1 + t - W) W
      rw [show r + 1 + t - W + W = r + 1 + t by omega] at this
      rw [this, Int.emod_eq_of_lt (by omega) (by omega)]
    rw [e]; omega
theorem pow_split {a b : Int} (h0 : 0 ≤ a) (h : a ≤ b) : (2 : Int) ^ b.toNat = 2 ^ a.toNat * 2 ^ (b - a).toNat := by
  rw [← Int.pow_add]
  congr 1
  omega
theorem div_div {x y z : Int} (hy : 0 < y) : x / y / z = x / (y * z) := by
  rw [Int.ediv_ediv, if_neg (by omega), Int.sub_zero]
theorem startI_lt {b k e : Int} (e0 : 0 ≤ e) (h : e ≤ b) (hk : k < 2 ^ b.toNat) : startI b k e < 2 ^ e.toNat := by
  unfold startI
  refine Int.ediv_lt_of_lt_mul (pow2_pos _) ?_
  rw [← pow_split e0 h]; exact hk
theorem startI_nn {b k e : Int} (k0 : 0 ≤ k) : 0 ≤ startI b k e := Int.ediv_nonneg k0 (Int.le_of_lt (pow2_pos _))
theorem startI_start {b k e l : Int} (h1 : l ≤ e) (h2 : e ≤ b) : startI b k e / 2 ^ (e - l).toNat = startI b k l := by
  unfold startI
  rw [div_div (pow2_pos _), ← Int.pow_add]
  congr 2
  omega
theorem end_leaf {b k l x : Int} {z : Str} (l0 : 0 ≤ l) (hl : l ≤ b) (x0 : 0 ≤ x) (x1 : x < 2 ^ b.toNat) (hs : startI b x l = startI b k l) (hz : z.length ≤ 60) : isEndD b k l (.tup [.str "leaf", .int x, .str z]) = true := by
  unfold isEndD
  have e1 : isBareD (.tup [.str "leaf", .int x, .str z]) = false := rfl
  rw [e1]
  have e2 : isLeafD b l (startI b k l) (.tup [.str "leaf", .int x, .str z]) = true := by
    show (decide (("leaf" : Str) = "leaf") && decide (0 ≤ x ∧ x < 2 ^ b.toNat) && decide (z.length ≤ 60) && decide (startI b x l = startI b k l)) = true
    rw [decide_eq_true rfl, decide_eq_true ⟨x0, x1⟩, decide_eq_true hz, decide_eq_true hs]; rfl
  rw [e2]; rfl
theorem end_fork {b k l e bb : Int} {m n : Dat} (hl : l ≤ e) (he : e < b) (b0 : 0 ≤ bb) (b1 : bb < 2 ^ e.toNat) (hs : bb / 2 ^ (e - l).toNat = startI b k l) (hne : bb ≠ startI b k e) (hm : isStampD m = true) (hn : isStampD n = true) : isEndD b k l (.tup [.str "fork", .int e, .int bb, m, n]) = true := by
  unfold isEndD
  have e1 : isBareD (.tup [.str "fork", .int e, .int bb, m, n]) = false := rfl
  rw [e1]
  have e2 : isForkD b l (startI b k l) (.tup [.str "fork", .int e, .int bb, m, n]) = true := by
    show (decide (("fork" : Str) = "fork") && decide (l ≤ e ∧ e < b) && decide (0 ≤ bb ∧ bb < 2 ^ e.toNat) && decide (bb / 2 ^ (e - l).toNat = startI b k l)) = true
    rw [decide_eq_true rfl, decide_eq_true ⟨hl, he⟩, decide_eq_true ⟨b0, b1⟩, decide_eq_true hs]; rfl
  have e3 : tailD b k (.tup [.str "fork", .int e, .int bb, m, n]) = true := by
    show (!decide (bb = startI b k e) && isStampD m && isStampD n) = true
    rw [decide_eq_false hne, hm, hn]; rfl
  rw [e2, e3]
  simp
theorem strOk_app {x y : Str} (h1 : PyData.strOk x = true) (h2 : PyData.strOk y = true) : PyData.strOk (x ++ y) = true := by
  unfold PyData.strOk at h1 h2 ⊢
  show (x.cps ++ y.cps).all _ = true
  rw [Array.all_append, h1, h2]; rfl
theorem dat_kV (H : Hp) (m : Key) : DatW H (kV m) (datK m) := by cases m <;> constructor
theorem dp_datK (m : Key) : (toPy (datK m)).depth = 0 := by cases m <;> rfl
mutual
def noL : Dat → Bool
  | .lst _ => false
  | .tup ds => noLs ds
  | .non => true
  | .bl _ => true
  | .int _ => true
  | .str _ => true
  | .dic => true
def noLs : List Dat → Bool
  | [] => true
  | d :: r => noL d && noLs r
end
theorem areSteps_snoc {b e : Int} {m : Dat} (hm : isStampD m = true) (he : e < b) : ∀ {ds : List Dat} {l : Int}, areStepsD b l ds = true → placeFrom l ds ≤ e → areStepsD b l (ds ++ [.tup [.int e, m]]) = true
  | [], l, _, hp => by
    have hp : l ≤ e := hp
    show ((decide (l ≤ e ∧ e < b) && isStampD m) && true) = true
    rw [decide_eq_true ⟨hp, he⟩, hm]; rfl
  | s :: r, l, h, hp => by
    have h : (isStepD b l s && areStepsD b (depthOf s + 1) r) = true := h
    rw [Bool.and_eq_true] at h
    show (isStepD b l s && areStepsD b (depthOf s + 1) (r ++ [.tup [.int e, m]])) = true
    rw [h.1, areSteps_snoc hm he h.2 ?_]
    · rfl
    · cases r with
      | nil => exact hp
      | cons y r =>
        unfold placeFrom at hp ⊢
        rw [List.getLast?_cons_cons] at hp; exact hp
theorem placeFrom_snoc (l : Int) (ds : List Dat) (e : Int) (m : Dat) : placeFrom l (ds ++ [.tup [.int e, m]]) = e + 1 := by
  unfold placeFrom
  rw [List.getLast?_append]; rfl
theorem DatWs.append {H : Hp} : ∀ {xs ys : List V} {ds es : List Dat}, DatWs H xs ds → DatWs H ys es → DatWs H (xs ++ ys) (ds ++ es)
  | _, _, _, _, .nil, h => h
  | _, _, _, _, .cons a r, h => .cons a (r.append h)
theorem okDs_app : ∀ {ds es : List Dat}, okDs ds = true → okDs es = true → okDs (ds ++ es) = true
  | [], _, _, h => h
  | d :: r, es, h, h2 => by
    have h : (okD d && okDs r) = true := h
    rw [Bool.and_eq_true] at h
    show (okD d && okDs (r ++ es)) = true
    rw [h.1, okDs_app h.2 h2]; rfl
theorem dpAll_app : ∀ {ds es : List Dat}, PyData.depthAll (toPys (ds ++ es)) = max (PyData.depthAll (toPys ds)) (PyData.depthAll (toPys es))
  | [], es => by show PyData.depthAll (toPys es) = max 0 (PyData.depthAll (toPys es)); omega
  | d :: r, es => by
    show max (toPy d).depth (PyData.depthAll (toPys (r ++ es))) = max (max (toPy d).depth (PyData.depthAll (toPys r))) _
    rw [dpAll_app]; omega
mutual
theorem DatW.keep {H H' : Hp} {D : Addr} {v : V} {d : Dat} (h : DatW H v d) (hk : ∀ b o, H b = some o → b ≠ D → H' b = some o) (hn : DatW H v d → ∀ b o, H b = some o → (∀ xs, o ≠ .lst xs) → b ≠ D) (nl : noL d = true) : DatW H' v d := by
  cases h with
  | non => exact .non
  | bl b => exact .bl b
  | int i => exact .int i
  | str z => exact .str z
  | lst e r => cases nl
  | tup e r => exact .tup (hk _ _ e (hn (.tup e r) _ _ e (fun _ z => nomatch z))) (DatWs.keep r hk (hn (.tup e r)) nl)
  | dic e => exact .dic (e.imp (fun ⟨k, e'⟩ => ⟨k, hk _ _ e' (hn (.dic e) _ _ e' (fun _ z => nomatch z))⟩) fun ⟨k, e'⟩ => ⟨k, hk _ _ e' (hn (.dic e) _ _ e' (fun _ z => nomatch z))⟩)
theorem DatWs.keep {H H' : Hp} {D : Addr} {xs : List V} {ds : List Dat} (h : DatWs H xs ds) (hk : ∀ b o, H b = some o → b ≠ D → H' b = some o) (hn : ∀ b o, H b = some o → (∀ xs, o ≠ .lst xs) → b ≠ D) (nl : noLs ds = true) : DatWs H' xs ds := by
  cases h with
  | nil => exact .nil
  | cons a r =>
    have nl : (noL _ && noLs _) = true := nl
    rw [Bool.and_eq_true] at nl
    exact .cons (DatW.keep a hk (fun _ => hn) nl.1) (DatWs.keep r hk hn nl.2)
end
theorem ixLast {K : PySem.W.Frag} {H : Hp} {a : Addr} {ys : List V} {es : List Dat} {d : Dat} {Q : VK} (hl : es.getLast? = some d) (r : DatWs H ys es) (e0 : H a = some (.tup ys)) (q : ∀ v, DatW H v d → Q v H) : rIxA K (.ref a) (.int (-1)) H Q := by
  have l0 := r.len
  have hpos : 0 < ys.length := by
    cases es with
    | nil => cases hl
    | cons _ _ => rw [l0]; simp
  obtain ⟨v', hv'⟩ : ∃ v', ys[ys.length - 1]? = some v' := ⟨_, List.getElem?_eq_getElem (by omega)⟩
  obtain ⟨d', hd', wd'⟩ := r.get hv'
  rw [l0, ← List.getLast?_eq_getElem?, hl] at hd'
  cases hd'
  refine .inl (.inr (.inl ⟨a, ys, -1, v', rfl, rfl, SqT.of e0, ?_, q v' wd'⟩))
  unfold atI ixN
  rw [if_neg (by decide), if_pos (by omega)]
  show ys[(-1 + (ys.length : Int)).toNat]? = _
  have : (-1 + (ys.length : Int)).toNat = ys.length - 1 := by omega
  rw [this]; exact hv'
end Rs
namespace Rs
open PySem PySem.Spec PyProof.Rows L2
def sg1 : Str := " !\"#$&'()*+,-./0123456789:;<=>?@ABCDEFGHIJKLMNOPQRSTUVWXYZ[\\]^_`"
def sg2 : Str := "abcdefghijklmnopqrstuvwxyz{|}~"
theorem sg_len : (sg1 ++ sg2).length = 94 ∧ (sg1 ++ sg2).cps.toList.length = 94 ∧ (sg1 ++ sg2).cps.toList.all (· < 128) = true := by decide +kernel
theorem noLs_app : ∀ {ds es : List Dat}, noLs ds = true → noLs es = true → noLs (ds ++ es) = true
  | [], _, _, h => h
  | d :: r, es, h, h2 => by
    have h : (noL d && noLs r) = true := h
    rw [Bool.and_eq_true] at h
    show (noL d && noLs (r ++ es)) = true
    rw [h.1, noLs_app h.2 h2]; rfl
def LE (K : PySem.W.Frag) (A : Adr) : TS := tSeq (tAsg (tOp (mShr) (mVar 2) (tOp (mSub) (mVar 1) (mVar 5))) (gName 6)) (tSeq (tAsg (tOp (mShl) (tC (.int 1)) (tOp (mSub) (mVar 5) (mVar 3))) (gName 7)) (tSeq (tAsg (tOp (mMod) (tOp (mAddG K) (tOp (mAddG K) (tOp (mMod) (mVar 6) (mVar 7)) (tC (.int 1))) (tOp (mMod) (tOp (mMulB) (mVar 4) (tC (.int 69621))) (tOp (mSub) (mVar 7) (tC (.int 1))))) (mVar 7)) (gName 8)) (tRet (tTup (tCons (tC (.str "fork")) (tCons (mVar 5) (tCons (tOp (mAddG K) (tOp (mSub) (mVar 6) (tOp (mMod) (mVar 6) (mVar 7))) (mVar 8)) (tCons (tCallX (sp__law_mark K A) (fun _ => E0) (tCons (mVar 4) (tNil))) (tCons (tCallX (sp__law_mark K A) (fun _ => E0) (tCons (tOp (mAddG K) (tOp (mFdiv) (mVar 4) (tC (.int 7))) (tC (.int 5))) (tNil))) (tNil))))))))))
theorem okS_leaf : okD (.str "leaf") = true := by decide +kernel
theorem okS_fork : okD (.str "fork") = true := by decide +kernel
theorem okS_z {z : Str} (h : PyData.strOk z = true) (hl : z.length ≤ 1000) : okD (.str z) = true := by
  show (PyData.strOk z && decide (z.length ≤ 1000)) = true
  rw [h, decide_eq_true hl]; rfl
variable {K : PySem.W.Frag} {mg : Str → Option Value} {A : Adr}
theorem len__law_text (K : PySem.W.Frag) (A : Adr) : ∀ vs H Q E, sp__law_text K A vs H Q E → vs.length = 1 := by rintro vs H Q E ⟨c, rfl, _⟩; rfl
theorem rd__law_text (T : Txt K mg A) (vs : List V) (H : Hp) (Q : VK) (E : XK) (h : sp__law_text K A vs H Q E) : T__law_text K A { nx := fun _ H' => Q .non H', rt := Q } (L2.start ["_law_cell", "_law_signs", "_law_size", "_law_made", "_law_k"] vs) H := by
  obtain ⟨c, rfl, q⟩ := h
  obtain ⟨g1, g2, g3⟩ := sg_len
  have rest : ∀ sz : Int, 0 ≤ sz → sz ≤ 60 → R__law_text_5 K A { nx := fun _ H' => Q .non H', rt := Q } [some (.int c), some (.str (sg1 ++ sg2)), some (.int sz), none, none] H := by
    intro sz s0 s1
    refine ⟨sz, rfl, by omega, by omega, ?_⟩
    refine for_range (fun i σ H' => H' = H ∧ ∃ z x4, σ = [some (.int c), some (.str (sg1 ++ sg2)), some (.int sz), some (.str z), x4] ∧ z.length = i ∧ PyData.strOk z = true) ⟨rfl, "", none, rfl, by decide, by decide +kernel⟩ ?_ ?_
    · rintro i σ _ hi ⟨rfl, z, x4, rfl, hz, ho⟩
      refine ⟨⟨by decide, by decide⟩, ⟨by decide, by decide⟩, by decide, mulR (by omega) (by omega), .inl ⟨by rw [g1]; exact line_ge (by decide), by rw [g1]; decide, ?_⟩⟩
      generalize (c / 4 + _ : Int) = w
      have e94 : ((sg1 ++ sg2).length : Int) = 94 := by rw [g1]; rfl
      rw [e94]
      obtain ⟨cc, hcc⟩ := atI_ex (xs := (sg1 ++ sg2).cps.toList) (i := w % 94) (by omega) (by rw [g2]; omega)
      refine .inl (.inr (.inr ⟨_, _, cc, rfl, rfl, by rw [g1]; exact line_ge (by decide), hcc, ?_⟩))
      refine ⟨by rw [hz]; exact line_ge (by show i + 1 ≤ 1000000; omega), rfl, z ++ ⟨#[cc]⟩, _, rfl, by rw [strLen_append, hz]; rfl, strOk_app ho ?_⟩
      obtain ⟨j, _, hj, _⟩ := atI_get hcc
      have := of_decide_eq_true (List.all_eq_true.mp g3 cc (List.mem_of_getElem? hj))
      unfold PyData.strOk
      simp
      omega
    · rintro σ _ ⟨rfl, z, x4, rfl, hz, ho⟩
      exact q z _ (.refl _) (by omega) ho
  have rest4 : ∀ sz : Int, 0 ≤ sz → sz ≤ 60 → R__law_text_4 K A { nx := fun _ H' => Q .non H', rt := Q } [some (.int c), some (.str (sg1 ++ sg2)), some (.int sz), none, none] H := by
    intro sz s0 s1
    refine ⟨⟨by decide, by decide⟩, by decide, Sel.dec (fun h => ?_) (fun h => rest sz s0 s1)⟩
    exact ⟨⟨by decide, by decide⟩, by decide, rest (c / 32 % 61) (by omega) (by omega)⟩
  refine ⟨line_ge (by decide +kernel), by decide, ⟨by decide, by decide⟩, by decide, Sel.dec (fun h => rest4 60 (by decide) (by decide)) (fun h => rest4 (c % 4) (by omega) (by omega))⟩
theorem len__law_steps (K : PySem.W.Frag) (A : Adr) : ∀ vs H Q E, sp__law_steps K A vs H Q E → vs.length = 3 := by rintro vs H Q E ⟨c, l, b, rfl, _⟩; rfl
theorem rd__law_steps (T : Txt K mg A) (vs : List V) (H : Hp) (Q : VK) (E : XK) (h : sp__law_steps K A vs H Q E) : T__law_steps K A { nx := fun _ H' => Q .non H', rt := Q } (L2.start ["_law_cell", "_law_low", "_law_bits_here", "_law_number", "_law_found", "_law_depth"] vs) H := by
  obtain ⟨c, l, b, rfl, l0, lb, b60, q⟩ := h
  refine ⟨⟨by decide, by decide⟩, by decide, line_ge (n := 0) (by decide), fun D hD => ⟨l, b, rfl, ⟨by omega, by omega, by omega, by omega⟩, ?_⟩⟩
  have n0 : 0 ≤ c / 4 % 65537 := by omega
  have n1 : c / 4 % 65537 < 65537 := by omega
  refine for_range (fun i σ H' => ∃ xs ds x5, σ = [some (.int c), some (.int l), some (.int b), some (.int (c / 4 % 65537)), some (.ref D), x5] ∧ Same H H' ∧ H' D = some (.lst xs) ∧ DatWs H' xs ds ∧ areStepsD b l ds = true ∧ placeFrom l ds ≤ l + i ∧ okDs ds = true ∧ PyData.depthAll (toPys ds) ≤ 1 ∧ noLs ds = true ∧ ds.length ≤ i)
    ⟨[], [], none, rfl, Same.upd hD, upd_same, .nil, rfl, by show l ≤ l + 0; omega, rfl, by decide, rfl, Nat.le_refl _⟩ ?_ ?_
  · rintro i σ H1 hi ⟨xs, ds, x5, rfl, S, hD1, w, st, pl, ok, dp, nl, ll⟩
    have hi' : l + i < b := by omega
    refine ⟨mulL n0 (by omega), mulR (by decide) (by decide), by decide, by decide, by decide, Sel.dec (fun h => ?_) (fun h => ?_)⟩
    · refine ⟨.inl ⟨rfl, _, SqL.of hD1⟩, IntMulOk.of_left (by decide), _, rfl, fun m hm => ⟨line_ge (n := 2) (by decide), fun p hp => ?_⟩⟩
      have S2 := Same.upd (o := .tup [V.int (l + i), kV m]) hp
      have el := w.len
      refine ⟨D, xs, .ref p, rfl, rfl, S2 _ _ hD1, by rw [el]; exact small1000 (by omega), ?_⟩
      have hp2 : upd H1 p (.tup [V.int (l + i), kV m]) p = some (.tup [V.int (l + i), kV m]) := upd_same
      generalize upd H1 p (.tup [V.int (l + i), kV m]) = H2 at S2 hp2 ⊢
      have hD2 := S2 _ _ hD1
      have kp : ∀ b o, H2 b = some o → b ≠ D → upd H2 D (.lst (xs ++ [.ref p])) b = some o := fun b o e n => by rw [upd_ne n]; exact e
      have nD : ∀ b o, H2 b = some o → (∀ xs, o ≠ .lst xs) → b ≠ D := fun b o e n z => by subst z; rw [hD2] at e; cases e; exact n _ rfl
      have wp : DatW H2 (.ref p) (.tup [.int (l + i), datK m]) := .tup hp2 (.cons (.int _) (.cons (dat_kV _ m) .nil))
      refine ⟨xs ++ [.ref p], ds ++ [.tup [.int (l + i), datK m]], _, rfl, fun b o e => ?_, upd_same, ?_, areSteps_snoc hm.1 hi' st pl, ?_, okDs_app ok ?_, ?_, noLs_app nl ?_, by simp; omega⟩
      · rw [upd_ne (ne_of_none e hD)]
        exact S2 _ _ (S _ _ e)
      · exact ((w.mono S2).append (.cons wp .nil)).keep kp nD (noLs_app nl (by cases m <;> rfl))
      · rw [placeFrom_snoc]; omega
      · show ((true && (okD (datK m) && true)) && true) = true
        rw [hm.2]; rfl
      · rw [dpAll_app]
        have e1 : PyData.depthAll (toPys [.tup [.int (l + i), datK m]]) = 1 := by
          show max (max 0 (max (toPy (datK m)).depth 0) + 1) 0 = 1
          rw [dp_datK]; rfl
        rw [e1]; omega
      · cases m <;> rfl
    · exact ⟨xs, ds, _, rfl, S, hD1, w, st, by omega, ok, dp, nl, by omega⟩
  · rintro σ H1 ⟨xs, ds, x5, rfl, S, hD1, w, st, pl, ok, dp, nl, ll⟩
    refine ⟨D, xs, rfl, .inl ⟨SqL.of hD1, fun p hp => ?_⟩⟩
    have S2 := Same.upd (o := .tup xs) hp
    exact q p ds _ (S.trans S2) (.tup upd_same (w.mono S2)) ⟨st, ok, dp⟩
theorem len__law_place (K : PySem.W.Frag) (A : Adr) : ∀ vs H Q E, sp__law_place K A vs H Q E → vs.length = 2 := by rintro vs H Q E ⟨v, ds, l, b, rfl, _⟩; rfl
theorem rd__law_place (T : Txt K mg A) (vs : List V) (H : Hp) (Q : VK) (E : XK) (h : sp__law_place K A vs H Q E) : T__law_place K A { nx := fun _ H' => Q .non H', rt := Q } (L2.start ["_law_steps_here", "_law_low"] vs) H := by
  obtain ⟨v, ds, l, b, rfl, w, l0, ⟨st, ok, dp⟩, q⟩ := h
  cases w with
  | @tup a xs _ e r =>
    refine ⟨line_ge (n := 0) (by decide), fun p hp => ?_⟩
    have S := Same.upd (o := .tup []) hp
    have q := q _ S
    have e' := S _ _ e
    have r' := r.mono S
    refine .inr (.inl ⟨_, _, (DatW.tup e' r').toV ok, .tup (SqT.of upd_same) .nil, lay_toPy (d := .tup ds) ok, rfl, by show PyData.depthAll (toPys ds) + 1 ≤ 150; omega, ?_⟩)
    cases ds with
    | nil => exact Sel.yes rfl q
    | cons d0 dr =>
      refine Sel.no rfl ?_
      obtain ⟨s, hs⟩ : ∃ s, (d0 :: dr).getLast? = some s := ⟨_, List.getLast?_eq_some_getLast (by simp)⟩
      obtain ⟨i, m, rfl, i0, i1⟩ := areSteps_last l0 st hs
      have hpl : placeFrom l (d0 :: dr) = i + 1 := by unfold placeFrom; rw [hs]; rfl
      rw [hpl] at q
      refine ixLast hs r' e' fun v' wv => ?_
      cases wv with
      | tup ee rr =>
        cases rr with
        | cons z0 rr =>
          cases z0
          exact ixT (j := 0) ee rfl rfl q
theorem len__law_end (K : PySem.W.Frag) (A : Adr) : ∀ vs H Q E, sp__law_end K A vs H Q E → vs.length = 4 := by rintro vs H Q E ⟨c, b, k, l, rfl, _⟩; rfl
theorem rd__law_end (T : Txt K mg A) (vs : List V) (H : Hp) (Q : VK) (E : XK) (h : sp__law_end K A vs H Q E) : T__law_end K A { nx := fun _ H' => Q .non H', rt := Q } (L2.start ["_law_cell", "_law_bits_here", "_law_key_here", "_law_low", "_law_number", "_law_depth", "_law_own", "_law_wide", "_law_rest", "_law_free"] vs) H := by
  obtain ⟨c, b, k, l, rfl, l0, lb, b1, b60, k0, k1, q⟩ := h
  have last : R__law_end_3 K A { nx := fun _ H' => Q .non H', rt := Q } [some (.int c), some (.int b), some (.int k), some (.int l), some (.int (c / 4)), none, none, none, none, none] H := by
    have e1 : (1 : Int) * 2 ^ (b - l).toNat = 2 ^ (b - l).toNat := Int.one_mul _
    have hF := pow2_pos (b - l).toNat
    have hsp := pow_split l0 lb
    refine ⟨⟨by omega, by omega, by decide⟩, by decide, Sel.dec (fun h => ?_) (fun h => ?_)⟩
    · refine ⟨_, rfl, fun z H1 S1 hz hk => ⟨line_ge (n := 3) (by decide), fun p hp => ?_⟩⟩
      refine q (.ref p) (.tup [.str "leaf", .int k, .str z]) _ (S1.trans (Same.upd hp)) (.tup upd_same (.cons (.str _) (.cons (.int _) (.cons (.str _) .nil)))) ?_ (by show max 0 (max 0 (max 0 0)) + 1 ≤ 1; decide) ⟨_, rfl⟩ (end_leaf l0 lb k0 k1 rfl hz)
      show (okD (.str "leaf") && (true && (okD (.str z) && true))) = true
      rw [okS_leaf, okS_z hk (by omega)]; rfl
    · rw [e1]
      have t0 := Int.emod_nonneg (c / 4 * 982451653) (Int.ne_of_gt hF)
      have t1 := Int.emod_lt_of_pos (c / 4 * 982451653) hF
      refine ⟨by omega, mulR (by decide) (by decide), by omega, ⟨by decide, by decide⟩, _, rfl, fun z H1 S1 hz hk => ⟨line_ge (n := 3) (by decide), fun p hp => ?_⟩⟩
      refine q (.ref p) (.tup [.str "leaf", .int (k - k % 2 ^ (b - l).toNat + c / 4 * 982451653 % 2 ^ (b - l).toNat), .str z]) _ (S1.trans (Same.upd hp)) (.tup upd_same (.cons (.str _) (.cons (.int _) (.cons (.str _) .nil)))) ?_ (by show max 0 (max 0 (max 0 0)) + 1 ≤ 1; decide) ⟨_, rfl⟩ (end_leaf l0 lb (repl_lo hF k0 t0) ?_ (repl_div hF t0 t1) hz)
      · show (okD (.str "leaf") && (true && (okD (.str z) && true))) = true
        rw [okS_leaf, okS_z hk (by omega)]; rfl
      · rw [hsp]
        rw [hsp] at k1
        exact repl_hi hF t1 k1
  have fork : ∀ (e : Int) (D : Ends), D.rt = Q → l < e → e < b → LE K A D [some (V.int c), some (V.int b), some (V.int k), some (V.int l), some (V.int (c / 4)), some (V.int e), none, none, none, none] H := by
    intro e D hDr le eb
    have hW := pow2_pos (e - l).toNat
    have hW2 : (2 : Int) ≤ 2 ^ (e - l).toNat := by
      obtain ⟨j, hj⟩ : ∃ j, (e - l).toNat = j + 1 := ⟨(e - l).toNat - 1, by omega⟩
      rw [hj, Int.pow_succ]
      have := pow2_pos j
      omega
    refine ⟨by omega, ⟨by omega, by omega, by decide⟩, ?_⟩
    have e1 : (1 : Int) * 2 ^ (e - l).toNat = 2 ^ (e - l).toNat := Int.one_mul _
    rw [e1]
    have o0 : 0 ≤ startI b k e := startI_nn k0
    have o1 := startI_lt (by omega) (by omega : e ≤ b) k1
    have r0 := Int.emod_nonneg (startI b k e) (Int.ne_of_gt hW)
    have r1 := Int.emod_lt_of_pos (startI b k e) hW
    have t0 := Int.emod_nonneg (c / 4 * 69621) (b := 2 ^ (e - l).toNat - 1) (by omega)
    have t1 := Int.emod_lt_of_pos (c / 4 * 69621) (b := 2 ^ (e - l).toNat - 1) (by omega)
    refine ⟨hW, mulR (by decide) (by decide), by omega, hW, hW, _, rfl, fun m hm => ⟨⟨by decide, by decide⟩, _, rfl, fun n hn => ⟨line_ge (n := 5) (by decide), fun p hp => ?_⟩⟩⟩
    have x0 := Int.emod_nonneg (startI b k e % 2 ^ (e - l).toNat + 1 + c / 4 * 69621 % (2 ^ (e - l).toNat - 1)) (Int.ne_of_gt hW)
    have x1 := Int.emod_lt_of_pos (startI b k e % 2 ^ (e - l).toNat + 1 + c / 4 * 69621 % (2 ^ (e - l).toNat - 1)) hW
    have xn := turn_ne r0 r1 t0 t1
    have es := startI_start (k := k) (Int.le_of_lt le) (Int.le_of_lt eb)
    have sp : (2 : Int) ^ e.toNat = 2 ^ l.toNat * 2 ^ (e - l).toNat := pow_split l0 (Int.le_of_lt le)
    show D.rt (.ref p) (upd H p (.tup [.str "fork", .int e, .int (startI b k e - startI b k e % 2 ^ (e - l).toNat + (startI b k e % 2 ^ (e - l).toNat + 1 + c / 4 * 69621 % (2 ^ (e - l).toNat - 1)) % 2 ^ (e - l).toNat), kV m, kV n]))
    generalize (startI b k e % 2 ^ (e - l).toNat + 1 + c / 4 * 69621 % (2 ^ (e - l).toNat - 1)) % 2 ^ (e - l).toNat = x at x0 x1 xn ⊢
    rw [hDr]
    refine q (.ref p) (.tup [.str "fork", .int e, .int (startI b k e - startI b k e % 2 ^ (e - l).toNat + x), datK m, datK n]) _ (Same.upd hp) (.tup upd_same (.cons (.str _) (.cons (.int _) (.cons (.int _) (.cons (dat_kV _ m) (.cons (dat_kV _ n) .nil)))))) ?_ ?_ ⟨_, rfl⟩
      (end_fork (Int.le_of_lt le) eb (repl_lo hW o0 x0) ?_ ?_ ?_ hm.1 hn.1)
    · show (okD (.str "fork") && (true && (true && (okD (datK m) && (okD (datK n) && true))))) = true
      rw [okS_fork, hm.2, hn.2]; rfl
    · show max 0 (max 0 (max 0 (max (toPy (datK m)).depth (max (toPy (datK n)).depth 0)))) + 1 ≤ 1
      rw [dp_datK, dp_datK]; decide
    · rw [sp]
      rw [sp] at o1
      exact repl_hi hW x1 o1
    · rw [repl_div hW x0 x1]; exact es
    · omega
  have mid : R__law_end_2 K A { nx := fun _ H' => Q .non H', rt := Q } [some (.int c), some (.int b), some (.int k), some (.int l), some (.int (c / 4)), none, none, none, none, none] H := by
    refine ⟨by decide, Sel.dec (fun h => Sel.dec (fun hlt => ?_) (fun _ => last)) (fun h => Sel.f last)⟩
    have m0 := Int.emod_nonneg (c / 4) (b := b - 1 - l) (by omega)
    have m1 := Int.emod_lt_of_pos (c / 4) (b := b - 1 - l) (by omega)
    exact ⟨by omega, fork _ _ rfl (by omega) (by omega)⟩
  refine ⟨⟨by decide, by decide⟩, by decide, Sel.dec (fun h => Sel.dec (fun hl => ?_) (fun _ => mid)) (fun h => Sel.f mid)⟩
  refine ⟨line_ge (n := 1) (by decide), fun p hp => ?_⟩
  refine q (.ref p) (.tup [.str "bare"]) _ (Same.upd hp) (.tup upd_same (.cons (.str _) .nil)) (by decide +kernel) (by show max 0 0 + 1 ≤ 1; decide) ⟨_, rfl⟩ ?_
  unfold isEndD
  have e1 : isBareD (.tup [.str "bare"]) = true := by show decide (("bare" : Str) = "bare") = true; exact decide_eq_true rfl
  rw [e1, if_pos rfl]
  exact decide_eq_true hl
end Rs
namespace Rs
open PySem PySem.Spec PyProof.Rows L2
def Mono (P : Hp → V → Prop) : Prop := ∀ H H' v, Same H H' → P H v → P H' v
def Gives (te : TE) (σ : L2.St) (H : Hp) (P : Hp → V → Prop) : Prop := ∀ R : VK, (∀ v H', Same H H' → P H' v → R v H') → te σ H R
def GivesN (t : TA) (σ : L2.St) (H : Hp) (P : Hp → V → Prop) (n : Nat) : Prop := ∀ R : List V → Hp → Prop, (∀ xs H', Same H H' → xs.length = n → (∀ x ∈ xs, P H' x) → R xs H') → t σ H R
theorem gn_nil {σ : L2.St} {H : Hp} {P : Hp → V → Prop} : GivesN tNil σ H P 0 := fun R h => h [] H (.refl H) rfl (fun x hx => nomatch hx)
theorem gn_cons {te : TE} {tr : TA} {σ : L2.St} {H : Hp} {P : Hp → V → Prop} {n : Nat} (mo : Mono P) (h1 : Gives te σ H P) (h2 : ∀ H', Same H H' → GivesN tr σ H' P n) : GivesN (tCons te tr) σ H P (n + 1) := fun R h =>
  h1 _ fun v H1 s1 p1 => h2 H1 s1 _ fun xs H2 s2 hl p2 => h (v :: xs) H2 (s1.trans s2) (by rw [List.length_cons, hl]) fun x hx => by
    rcases List.mem_cons.mp hx with rfl | hx
    · exact mo _ _ _ s2 p1
    · exact p2 x hx
theorem g_tup {ta : TA} {σ : L2.St} {H : Hp} {P : Hp → V → Prop} (vs : List V) (hl : vs.length ≤ 1000) (ht : ∀ R, R vs H → ta σ H R) (hp : ∀ p H', Same H H' → H' p = some (.tup vs) → P H' (.ref p)) : Gives (tTup ta) σ H P := fun R h =>
  ht _ ⟨line_ge (by omega), fun p hn => h _ _ (Same.upd hn) (hp p _ (Same.upd hn) upd_same)⟩
theorem g_lst {ta : TA} {σ : L2.St} {H : Hp} {P : Hp → V → Prop} (vs : List V) (hl : vs.length ≤ 1000) (ht : ∀ R, R vs H → ta σ H R) (hp : ∀ p H', Same H H' → H' p = some (.lst vs) → P H' (.ref p)) : Gives (tLst ta) σ H P := fun R h =>
  ht _ ⟨line_ge (by omega), fun p hn => h _ _ (Same.upd hn) (hp p _ (Same.upd hn) upd_same)⟩
theorem g_val {te : TE} {σ : L2.St} {H : Hp} {P : Hp → V → Prop} (v : V) (ht : ∀ R, R v H → te σ H R) (hp : P H v) : Gives te σ H P := fun R h => ht _ (h v H (.refl H) hp)
theorem lst_all {t : TA} {σ : L2.St} {H : Hp} {P : Hp → V → Prop} {n : Nat} {R : VK} (mo : Mono P) (g : GivesN t σ H P n) (hn : n ≤ 1000) (h : ∀ p xs H', Same H H' → H' p = some (.lst xs) → xs.length = n → (∀ x ∈ xs, P H' x) → R (.ref p) H') : tLst t σ H R :=
  g _ fun xs H1 s1 hl p1 => ⟨line_ge (by omega), fun p hn => h p xs _ (s1.trans (Same.upd hn)) upd_same hl fun x hx => mo _ _ _ (Same.upd hn) (p1 x hx)⟩
theorem more_all {K : PySem.W.Frag} {t : TA} {σ : L2.St} {H : Hp} {P : Hp → V → Prop} {n m : Nat} {i : Nat} {a : Addr} {ys : List V} {R : VK} (mo : Mono P) (hi : σ[i]? = some (some (.ref a))) (ha : H a = some (.lst ys)) (hm : ys.length = m) (py : ∀ y ∈ ys, P H y) (g : GivesN t σ H P n) (hn : m + n ≤ 1000)
    (h : ∀ p xs H', Same H H' → H' p = some (.lst xs) → xs.length = m + n → (∀ x ∈ xs, P H' x) → R (.ref p) H') : tOp (mAddG K) (mVar i) (tLst t) σ H R := by
  unfold tOp mVar
  rw [hi]
  refine lst_all mo g (by omega) fun p xs H1 s1 hp hl p1 => .inl ⟨a, p, ys, xs, rfl, rfl, s1 _ _ ha, hp, line_ge (by omega), fun r hr => ?_⟩
  refine h r _ _ (s1.trans (Same.upd hr)) upd_same (by rw [List.length_append]; omega) fun x hx => mo _ _ _ (Same.upd hr) ?_
  rcases List.mem_append.mp hx with z | z
  · exact mo _ _ _ s1 (py x z)
  · exact p1 x z
def BadStep (b : Int) (H : Hp) (v : V) : Prop := ∃ d, DatW H v d ∧ isStepD b 0 d = false
theorem BadStep.mono (b : Int) : Mono (BadStep b) := fun _ _ _ s ⟨d, w, h⟩ => ⟨d, w.mono s, h⟩
theorem isStep_least {b l : Int} {d : Dat} (hl : 0 ≤ l) (h : isStepD b 0 d = false) : isStepD b l d = false := by
  unfold isStepD at h ⊢
  split at h
  · rename_i i m
    rw [Bool.and_eq_false_iff] at h ⊢
    rcases h with h | h
    · left
      have h := of_decide_eq_false h
      exact decide_eq_false (by omega)
    · exact .inr h
  · rfl
theorem step_nn {b l : Int} {s : Dat} (hl : 0 ≤ l) (h : isStepD b l s = true) : l ≤ depthOf s ∧ depthOf s < b := by
  obtain ⟨i, m, rfl⟩ := isStep_shape h
  have h : (decide (l ≤ i ∧ i < b) && isStampD m) = true := h
  rw [Bool.and_eq_true, decide_eq_true_eq] at h
  exact h.1
theorem areSteps_bad {b : Int} {d : Dat} (h : isStepD b 0 d = false) : ∀ {ds : List Dat} {l : Int} {j : Nat}, 0 ≤ l → ds[j]? = some d → areStepsD b l ds = false
  | [], l, j, _, e => by cases e
  | s :: r, l, j, hl, e => by
    show (isStepD b l s && areStepsD b (depthOf s + 1) r) = false
    cases hs : isStepD b l s with
    | false => rfl
    | true =>
      have := step_nn hl hs
      cases j with
      | zero =>
        have e : s = d := Option.some.inj e
        rw [e, isStep_least hl h] at hs; cases hs
      | succ j =>
        have e : r[j]? = some d := e
        rw [areSteps_bad h (by omega) e]; rfl
theorem areSteps_fall {b : Int} {s t : Dat} (h : depthOf t ≤ depthOf s) : ∀ {ds : List Dat} {l : Int} {j : Nat}, 0 ≤ l → ds[j]? = some s → ds[j + 1]? = some t → areStepsD b l ds = false
  | [], l, j, _, e, _ => by cases e
  | x :: r, l, j, hl, e, e2 => by
    show (isStepD b l x && areStepsD b (depthOf x + 1) r) = false
    cases hs : isStepD b l x with
    | false => rfl
    | true =>
      have hn := step_nn hl hs
      cases j with
      | zero =>
        have ex : x = s := Option.some.inj e
        cases r with
        | nil => cases e2
        | cons y r =>
          have e2 : y = t := Option.some.inj e2
          show (true && (isStepD b (depthOf x + 1) y && areStepsD b (depthOf y + 1) r)) = false
          cases hy : isStepD b (depthOf x + 1) y with
          | false => rfl
          | true => have := step_nn (by omega) hy; rw [e2, ex] at this; omega
      | succ j =>
        have e : r[j]? = some s := e
        have e2 : r[j + 1]? = some t := e2
        rw [areSteps_fall h (by omega) e e2]; rfl
theorem areSteps_above {b : Int} : ∀ {ds : List Dat} {l : Int} {j : Nat} {t : Dat}, 0 ≤ l → areStepsD b l ds = true → ds[j]? = some t → l ≤ depthOf t
  | [], _, _, _, _, _, e => by cases e
  | x :: r, l, j, t, hl, h, e => by
    have h : (isStepD b l x && areStepsD b (depthOf x + 1) r) = true := h
    rw [Bool.and_eq_true] at h
    have hn := step_nn hl h.1
    cases j with
    | zero =>
      have e : x = t := Option.some.inj e
      rw [← e]; exact hn.1
    | succ j =>
      have e : r[j]? = some t := e
      have := areSteps_above (by omega) h.2 e
      omega
theorem areSteps_rise {b : Int} : ∀ {ds : List Dat} {l : Int} {i j : Nat} {s t : Dat}, 0 ≤ l → areStepsD b l ds = true → i < j → ds[i]? = some s → ds[j]? = some t → depthOf s < depthOf t
  | [], _, _, _, _, _, _, _, _, e, _ => by cases e
  | x :: r, l, i, j, s, t, hl, h, hij, e, e2 => by
    have h : (isStepD b l x && areStepsD b (depthOf x + 1) r) = true := h
    rw [Bool.and_eq_true] at h
    have hn := step_nn hl h.1
    cases j with
    | zero => omega
    | succ j =>
      have e2 : r[j]? = some t := e2
      cases i with
      | succ i =>
        have e : r[i]? = some s := e
        exact areSteps_rise (by omega) h.2 (by omega) e e2
      | zero =>
        have e : x = s := Option.some.inj e
        subst e
        have := areSteps_above (by omega) h.2 e2
        omega
end Rs
namespace Rs
open PySem PySem.Spec PyProof.Rows L2
theorem badD {b x : Int} {m : Dat} (h : x < 0 ∨ b ≤ x) : isStepD b 0 (.tup [.int x, m]) = false := by
  rw [isStep_eq, decide_eq_false (by omega)]; rfl
theorem badM {b x : Int} {m : Dat} (h : isStampD m = false) : isStepD b 0 (.tup [.int x, m]) = false := by
  rw [isStep_eq, h, Bool.and_false]
theorem stampOf {m : Dat} (h : isStampD m = true) : ∃ k : Key, m = datK k := by
  cases m with
  | int i => exact ⟨.inl i, rfl⟩
  | str z => exact ⟨.inr z, rfl⟩
  | _ => cases h
theorem valOf {H : Hp} {v : V} {k : Key} (w : DatW H v (datK k)) : v = kV k := by
  cases k <;> cases w <;> rfl
theorem no_stamp {i : Int} (h : i < 0 ∨ 10 ^ 60 ≤ i) : isStampD (.int i) = false := decide_eq_false (by omega)
theorem DatWs.take {H : Hp} : ∀ {xs : List V} {ds : List Dat} (n : Nat), DatWs H xs ds → DatWs H (xs.take n) (ds.take n)
  | _, _, 0, _ => .nil
  | _, _, n + 1, .nil => .nil
  | _, _, n + 1, .cons a r => .cons a (r.take n)
theorem DatWs.drop {H : Hp} : ∀ {xs : List V} {ds : List Dat} (n : Nat), DatWs H xs ds → DatWs H (xs.drop n) (ds.drop n)
  | _, _, 0, h => h
  | _, _, n + 1, .nil => .nil
  | _, _, n + 1, .cons a r => r.drop n
theorem DatWs.set {H : Hp} {v : V} {d : Dat} (w : DatW H v d) : ∀ {xs : List V} {ds : List Dat} (n : Nat), DatWs H xs ds → DatWs H (xs.set n v) (ds.set n d)
  | _, _, _, .nil => .nil
  | _, _, 0, .cons a r => .cons w r
  | _, _, n + 1, .cons a r => .cons a (r.set w n)
theorem DatWs.reverse {H : Hp} : ∀ {xs : List V} {ds : List Dat}, DatWs H xs ds → DatWs H xs.reverse ds.reverse
  | _, _, .nil => .nil
  | _, _, .cons a r => by rw [List.reverse_cons, List.reverse_cons]; exact r.reverse.append (.cons a .nil)
def BX2 (K : PySem.W.Frag) (A : Adr) : TS := mIfS (mAnd (mTest (tOp (mEqC K) (tOp (mMod) (mVar 0) (tC (.int 11))) (tC (.int 1)))) (mTest (tOp (mGt) (tCB (kLenA K) (tCons (mVar 1) (tNil))) (tC (.int 1))))) (tDrop (tBM0 K "list" rReverse (mVar 8))) (mIfS (mAnd (mTest (tOp (mEqC K) (tOp (mMod) (mVar 0) (tC (.int 11))) (tC (.int 2)))) (mTest (tOp (mLt) (tOp (mAddG K) (mVar 3) (tC (.int 1))) (tCB (kLenA K) (tCons (mVar 1) (tNil)))))) (tSeq (tAsg (tOp (rIxA K) (mVar 1) (tOp (mAddG K) (mVar 3) (tC (.int 1)))) (gSub (mVar 8) (mVar 3) rSetA)) (tAsg (tOp (rIxA K) (mVar 1) (mVar 3)) (gSub (mVar 8) (tOp (mAddG K) (mVar 3) (tC (.int 1))) rSetA))) (mIfS (mAnd (mTest (tOp (mEqC K) (tOp (mMod) (mVar 0) (tC (.int 11))) (tC (.int 3)))) (mTest (tOp (mGt) (mVar 3) (tC (.int 0))))) (tAsg (tTup (tCons (tOp (rIxA K) (tOp (rIxA K) (mVar 1) (tOp (mSub) (mVar 3) (tC (.int 1)))) (tC (.int 0))) (tCons (mVar 5) (tNil)))) (gSub (mVar 8) (mVar 3) rSetA)) (tAsg (tOp (rIxA K) (mVar 6) (tOp (mMod) (tOp (mFdiv) (mVar 0) (tC (.int 77))) (tCB (kLenA K) (tCons (mVar 6) (tNil))))) (gSub (mVar 8) (mVar 3) rSetA))))
def BX3 (K : PySem.W.Frag) (A : Adr) : TS := mIfS (mAnd (mTest (tOp (mEqC K) (tOp (mMod) (mVar 0) (tC (.int 11))) (tC (.int 2)))) (mTest (tOp (mLt) (tOp (mAddG K) (mVar 3) (tC (.int 1))) (tCB (kLenA K) (tCons (mVar 1) (tNil)))))) (tSeq (tAsg (tOp (rIxA K) (mVar 1) (tOp (mAddG K) (mVar 3) (tC (.int 1)))) (gSub (mVar 8) (mVar 3) rSetA)) (tAsg (tOp (rIxA K) (mVar 1) (mVar 3)) (gSub (mVar 8) (tOp (mAddG K) (mVar 3) (tC (.int 1))) rSetA))) (mIfS (mAnd (mTest (tOp (mEqC K) (tOp (mMod) (mVar 0) (tC (.int 11))) (tC (.int 3)))) (mTest (tOp (mGt) (mVar 3) (tC (.int 0))))) (tAsg (tTup (tCons (tOp (rIxA K) (tOp (rIxA K) (mVar 1) (tOp (mSub) (mVar 3) (tC (.int 1)))) (tC (.int 0))) (tCons (mVar 5) (tNil)))) (gSub (mVar 8) (mVar 3) rSetA)) (tAsg (tOp (rIxA K) (mVar 6) (tOp (mMod) (tOp (mFdiv) (mVar 0) (tC (.int 77))) (tCB (kLenA K) (tCons (mVar 6) (tNil))))) (gSub (mVar 8) (mVar 3) rSetA)))
def BX4 (K : PySem.W.Frag) (A : Adr) : TS := mIfS (mAnd (mTest (tOp (mEqC K) (tOp (mMod) (mVar 0) (tC (.int 11))) (tC (.int 3)))) (mTest (tOp (mGt) (mVar 3) (tC (.int 0))))) (tAsg (tTup (tCons (tOp (rIxA K) (tOp (rIxA K) (mVar 1) (tOp (mSub) (mVar 3) (tC (.int 1)))) (tC (.int 0))) (tCons (mVar 5) (tNil)))) (gSub (mVar 8) (mVar 3) rSetA)) (tAsg (tOp (rIxA K) (mVar 6) (tOp (mMod) (tOp (mFdiv) (mVar 0) (tC (.int 77))) (tCB (kLenA K) (tCons (mVar 6) (tNil))))) (gSub (mVar 8) (mVar 3) rSetA))
def BA4 (K : PySem.W.Frag) (A : Adr) : TS := tAsg (tOp (rIxA K) (mVar 6) (tOp (mMod) (tOp (mFdiv) (mVar 0) (tC (.int 77))) (tCB (kLenA K) (tCons (mVar 6) (tNil))))) (gSub (mVar 8) (mVar 3) rSetA)
theorem areSteps_len {b : Int} : ∀ {ds : List Dat} {l : Int}, 0 ≤ l → l ≤ b → areStepsD b l ds = true → (ds.length : Int) ≤ b - l
  | [], l, _, h, _ => by simp; omega
  | x :: r, l, hl, hb, h => by
    have h : (isStepD b l x && areStepsD b (depthOf x + 1) r) = true := h
    rw [Bool.and_eq_true] at h
    have hn := step_nn hl h.1
    have := areSteps_len (l := depthOf x + 1) (by omega) (by omega) h.2
    rw [List.length_cons]
    omega
variable {K : PySem.W.Frag} {mg : Str → Option Value} {A : Adr}
theorem len__law_bad_steps (K : PySem.W.Frag) (A : Adr) : ∀ vs H Q E, sp__law_bad_steps K A vs H Q E → vs.length = 3 := by rintro vs H Q E ⟨c, b, v, ds, rfl, _⟩; rfl
theorem rd__law_bad_steps (T : Txt K mg A) (vs : List V) (H : Hp) (Q : VK) (E : XK) (h : sp__law_bad_steps K A vs H Q E) : T__law_bad_steps K A { nx := fun _ H' => Q .non H', rt := Q } (L2.start ["_law_cell", "_law_steps_here", "_law_bits_here", "_law_at_here", "_law_depth", "_law_mark_here", "_law_some", "_law_far", "_law_changed"] vs) H := by
  obtain ⟨c, b, v, ds, rfl, b1, b60, w, ⟨st, ok, dp⟩, ne, q⟩ := h
  cases w with
  | @tup a xs _ e r =>
  have el := r.len
  have hpos : 0 < ds.length := List.length_pos_iff.mpr ne
  refine ⟨⟨by decide, by decide⟩, .inl (.inr (.inl ⟨_, SqT.of e, by omega, ?_⟩))⟩
  have j0 := Int.emod_nonneg (c / 11) (b := (xs.length : Int)) (by omega)
  have j1 := Int.emod_lt_of_pos (c / 11) (b := (xs.length : Int)) (by omega)
  obtain ⟨j, hj⟩ := Int.eq_ofNat_of_zero_le j0
  have jl : j < xs.length := by omega
  obtain ⟨x, hx⟩ : ∃ x, xs[j]? = some x := ⟨_, List.getElem?_eq_getElem jl⟩
  obtain ⟨d, hd, wx⟩ := r.get hx
  have hds := areSteps_bad (b := b) (d := d) (ds := ds) (l := 0) (j := j)
  have hst : isStepD b 0 d = true := by
    cases hs : isStepD b 0 d with
    | true => rfl
    | false => rw [hds hs (Int.le_refl 0) hd] at st; cases st
  obtain ⟨i, m0, rfl⟩ := isStep_shape hst
  rw [isStep_eq, Bool.and_eq_true, decide_eq_true_eq] at hst
  obtain ⟨⟨i0, i1⟩, hm0⟩ := hst
  obtain ⟨m, rfl⟩ := stampOf hm0
  have okm : okD (datK m) = true := by
    have := ok_mem ok (List.mem_of_getElem? hd)
    have this : (true && (okD (datK m) && true)) = true := this
    simpa using this
  cases wx with
  | @tup ax ys _ ex rx =>
  cases rx with
  | cons wi rx =>
  cases rx with
  | cons wm rx =>
  cases rx
  cases wi
  have := valOf wm
  subst this
  show R__law_bad_steps_1 K A { nx := fun _ H' => Q .non H', rt := Q } [some (.int c), some (.ref a), some (.int b), some (.int (c / 11 % (xs.length : Int))), none, none, none, none, none] H
  rw [hj]
  refine ixT (j := j) e rfl hx ⟨ax, _, rfl, SqT.of ex, rfl, _, _, rfl, _, _, rfl, rfl, ?_⟩
  show R__law_bad_steps_2 K A { nx := fun _ H' => Q .non H', rt := Q } [some (.int c), some (.ref a), some (.int b), some (.int j), some (.int i), some (kV m), none, none, none] H
  have mo := BadStep.mono b
  -- the last row: a thing of them is put in
  have fin : ∀ (far : Int) (p : Addr) (zs : List V) (H1 : Hp), Same H H1 → H1 p = some (.lst zs) → zs.length = 27 → (∀ z ∈ zs, BadStep b H1 z) → R__law_bad_steps_8 K A { nx := fun _ H' => Q .non H', rt := Q } [some (.int c), some (.ref a), some (.int b), some (.int j), some (.int i), some (kV m), some (.ref p), some (.int far), none] H1 := by
    intro far p zs H1 S1 hp hz hb
    refine ⟨a, xs, rfl, .inr (SqT.of (S1 _ _ e)), fun l hl => ?_⟩
    have Sl : ∀ o, Same H1 (upd H1 l o) := fun o => Same.upd hl
    have r1 := r.mono S1
    have hlo : upd H1 l (.lst xs) l = some (.lst xs) := upd_same
    -- the tuple of what the list is then
    have out : ∀ (H2 : Hp) (ys : List V) (es : List Dat), Same H1 H2 → H2 l = some (.lst ys) → DatWs H2 ys es → areStepsD b 0 es = false → R__law_bad_steps_10 K A { nx := fun _ H' => Q .non H', rt := Q } [some (.int c), some (.ref a), some (.int b), some (.int j), some (.int i), some (kV m), some (.ref p), some (.int far), some (.ref l)] H2 := by
      intro H2 ys es S2 h2 w2 hf
      refine ⟨l, ys, rfl, .inl ⟨SqL.of h2, fun t ht => ?_⟩⟩
      exact q (.ref t) es _ (S1.trans (S2.trans (Same.upd ht))) (.tup upd_same (w2.mono (Same.upd ht))) hf
    have eH : upd H1 l (.lst xs) a = some (.tup xs) := Sl _ _ _ (S1 _ _ e)
    have up2 : ∀ (o o' : HO), upd (upd H1 l o) l o' = upd H1 l o' := fun o o' => upd_upd
    have ll : xs.length ≤ 60 := by have := areSteps_len (Int.le_refl 0) (by omega) st; omega
    have wd : DatW H1 (.ref ax) (.tup [.int i, datK m]) := .tup (S1 _ _ ex) (.cons (.int _) (.cons (dat_kV _ m) .nil))
    have jd : j < ds.length := by omega
    have x4 : ∀ D : Ends, (∀ σ H', R__law_bad_steps_10 K A { nx := fun _ H' => Q .non H', rt := Q } σ H' → D.nx σ H') → BA4 K A D [some (.int c), some (.ref a), some (.int b), some (.int j), some (.int i), some (kV m), some (.ref p), some (.int far), some (.ref l)] (upd H1 l (.lst xs)) := by
      intro D nx
      refine ⟨⟨by decide, by decide⟩, .inl (.inl ⟨_, SqL.of (Sl _ _ _ hp), by omega, ?_⟩)⟩
      have z0 := Int.emod_nonneg (c / 77) (b := (zs.length : Int)) (by omega)
      have z1 := Int.emod_lt_of_pos (c / 77) (b := (zs.length : Int)) (by omega)
      obtain ⟨y, hy⟩ : ∃ y, zs[(c / 77 % (zs.length : Int)).toNat]? = some y := ⟨_, List.getElem?_eq_getElem (by omega)⟩
      obtain ⟨dy, wy, by0⟩ := hb y (List.mem_of_getElem? hy)
      refine ixL (Sl _ _ _ hp) (by omega) hy (.inl ⟨l, xs, j, j, rfl, rfl, upd_same, ?_, ?_⟩)
      · unfold ixN; rw [if_pos (by omega), if_pos (by omega)]; simp
      · rw [up2]
        refine nx _ _ (out _ _ (ds.set j dy) (Sl _) upd_same ((r1.set wy j).mono (Sl _)) (areSteps_bad by0 (Int.le_refl 0) (j := j) (by simp [jd])))
    have shape : ∀ (n : Nat) (y : V), xs[n]? = some y → ∃ (an : Addr) (e' : Int) (m' : Dat) (vm : V), y = .ref an ∧ ds[n]? = some (.tup [.int e', m']) ∧ H1 an = some (.tup [.int e', vm]) ∧ DatW H1 vm m' := by
      intro n y hy
      obtain ⟨dy, hdy, wy⟩ := r1.get hy
      have hs : isStepD b 0 dy = true := by
        cases hs : isStepD b 0 dy with
        | true => rfl
        | false => rw [areSteps_bad hs (Int.le_refl 0) hdy] at st; cases st
      obtain ⟨e', m', rfl⟩ := isStep_shape hs
      cases wy with
      | tup ey ry =>
      cases ry with
      | cons w0 ry =>
      cases ry with
      | cons w1 ry =>
      cases ry
      cases w0
      exact ⟨_, e', m', _, rfl, hdy, ey, w1⟩
    have ix : ∀ (n : Nat) (k : Int) (ys : List V), n < ys.length → k = n → ixN ys.length k = some n := fun n k ys h e => by
      unfold ixN; rw [if_pos (by omega), if_pos (by omega)]; simp [e]
    have x3 : ∀ D : Ends, (∀ σ H', R__law_bad_steps_10 K A { nx := fun _ H' => Q .non H', rt := Q } σ H' → D.nx σ H') → BX4 K A D [some (.int c), some (.ref a), some (.int b), some (.int j), some (.int i), some (kV m), some (.ref p), some (.int far), some (.ref l)] (upd H1 l (.lst xs)) := by
      intro D nx
      refine ⟨by decide, Sel.dec (fun h => Sel.dec (fun hj0 => ?_) (fun _ => x4 D nx)) (fun h => Sel.f (x4 D nx))⟩
      obtain ⟨y, hy⟩ : ∃ y, xs[j - 1]? = some y := ⟨_, List.getElem?_eq_getElem (by omega)⟩
      obtain ⟨an, e', m', vm, rfl, hdn, hn, wn⟩ := shape _ _ hy
      refine ixT (j := j - 1) eH (by omega) hy (ixT (j := 0) (Sl _ _ _ hn) rfl rfl ⟨line_ge (n := 2) (by decide), fun t ht => ?_⟩)
      obtain ⟨tl, ht1⟩ : t ≠ l ∧ H1 t = none := by
        by_cases z : t = l
        · subst z; rw [upd_same] at ht; cases ht
        · rw [upd_ne z] at ht; exact ⟨z, ht⟩
      refine .inl ⟨l, xs, j, j, rfl, rfl, by rw [upd_ne (Ne.symm tl), upd_same], ix _ _ _ jl rfl, ?_⟩
      have S3 : Same H1 (upd (upd (upd H1 l (.lst xs)) t (.tup [.int e', kV m])) l (.lst (xs.set j (.ref t)))) := fun y o z => by
        rw [upd_ne (ne_of_none z hl), upd_ne (ne_of_none z ht1), upd_ne (ne_of_none z hl)]; exact z
      have ht3 : upd (upd (upd H1 l (.lst xs)) t (.tup [.int e', kV m])) l (.lst (xs.set j (.ref t))) t = some (.tup [.int e', kV m]) := by rw [upd_ne tl, upd_same]
      refine nx _ _ (out _ _ (ds.set j (.tup [.int e', datK m])) S3 upd_same ((r1.mono S3).set (.tup ht3 (.cons (.int _) (.cons (dat_kV _ m) .nil))) j) (areSteps_fall (s := .tup [.int e', m']) (t := .tup [.int e', datK m]) (Int.le_refl _) (j := j - 1) (Int.le_refl 0) ?_ ?_))
      · rw [List.getElem?_set_ne (by omega)]; exact hdn
      · have : j - 1 + 1 = j := by omega
        rw [this]; simp [jd]
    have x2 : ∀ D : Ends, (∀ σ H', R__law_bad_steps_10 K A { nx := fun _ H' => Q .non H', rt := Q } σ H' → D.nx σ H') → BX3 K A D [some (.int c), some (.ref a), some (.int b), some (.int j), some (.int i), some (kV m), some (.ref p), some (.int far), some (.ref l)] (upd H1 l (.lst xs)) := by
      intro D nx
      refine ⟨by decide, Sel.dec (fun h => .inl (.inr (.inl ⟨_, SqT.of eH, Sel.dec (fun hlt => ?_) (fun _ => x3 D nx)⟩))) (fun h => Sel.f (x3 D nx))⟩
      obtain ⟨y, hy⟩ : ∃ y, xs[j + 1]? = some y := ⟨_, List.getElem?_eq_getElem (by omega)⟩
      obtain ⟨dy, hdy, wy⟩ := r1.get hy
      have rise := areSteps_rise (Int.le_refl 0) st (Nat.lt_succ_self j) hd hdy
      refine ixT (j := j + 1) eH (by omega) hy (.inl ⟨l, xs, j, j, rfl, rfl, upd_same, ix _ _ _ jl rfl, ?_⟩)
      rw [up2]
      refine ixT (j := j) (Sl _ _ _ (S1 _ _ e)) rfl hx (.inl ⟨l, xs.set j y, j + 1, j + 1, rfl, rfl, upd_same, ix _ _ _ (by rw [List.length_set]; omega) (by omega), ?_⟩)
      rw [up2]
      refine nx _ _ (out _ _ ((ds.set j dy).set (j + 1) (.tup [.int i, datK m])) (Sl _) upd_same ((((r1.set wy j).set wd (j + 1))).mono (Sl _)) (areSteps_fall (s := dy) (t := .tup [.int i, datK m]) (Int.le_of_lt rise) (j := j) (Int.le_refl 0) ?_ ?_))
      · rw [List.getElem?_set_ne (by omega)]; simp [jd]
      · have : j + 1 < ds.length := by omega
        simp [this]
    have x1 : ∀ D : Ends, (∀ σ H', R__law_bad_steps_10 K A { nx := fun _ H' => Q .non H', rt := Q } σ H' → D.nx σ H') → BX2 K A D [some (.int c), some (.ref a), some (.int b), some (.int j), some (.int i), some (kV m), some (.ref p), some (.int far), some (.ref l)] (upd H1 l (.lst xs)) := by
      intro D nx
      refine ⟨by decide, Sel.dec (fun h => .inl (.inr (.inl ⟨_, SqT.of eH, Sel.dec (fun hlt => ?_) (fun _ => x2 D nx)⟩))) (fun h => Sel.f (x2 D nx))⟩
      refine ⟨.inl ⟨rfl, _, SqL.of upd_same⟩, l, xs, rfl, rfl, upd_same, ?_⟩
      rw [up2]
      obtain ⟨s, hs⟩ : ∃ s, ds[ds.length - 2]? = some s := ⟨_, List.getElem?_eq_getElem (by omega)⟩
      obtain ⟨t, ht⟩ : ∃ t, ds[ds.length - 1]? = some t := ⟨_, List.getElem?_eq_getElem (by omega)⟩
      have rise := areSteps_rise (Int.le_refl 0) st (by omega : ds.length - 2 < ds.length - 1) hs ht
      refine nx _ _ (out _ _ ds.reverse (Sl _) upd_same (r1.reverse.mono (Sl _)) (areSteps_fall (s := t) (t := s) (Int.le_of_lt rise) (j := 0) (Int.le_refl 0) ?_ ?_))
      · rw [List.getElem?_reverse (by omega)]; exact ht
      · rw [List.getElem?_reverse (by omega)]
        have : ds.length - 1 - (0 + 1) = ds.length - 2 := by omega
        rw [this]; exact hs
    refine ⟨by decide, Sel.dec (fun h0 => ?_) (fun h0 => x1 _ fun _ _ z => z)⟩
    refine ⟨.inl ⟨rfl, _, SqL.of upd_same⟩, ixT (j := j) eH rfl hx ⟨l, xs, j, .ref ax, rfl, rfl, upd_same, by omega, by omega, small1000 (by omega), ?_⟩⟩
    rw [up2]
    refine out _ _ (ds.take j ++ .tup [.int i, datK m] :: ds.drop j) (Sl _) upd_same (((r1.take j).append (.cons wd (r1.drop j))).mono (Sl _)) (areSteps_fall (s := .tup [.int i, datK m]) (t := .tup [.int i, datK m]) (Int.le_refl _) (j := j) (Int.le_refl 0) ?_ ?_)
    · rw [List.getElem?_append_right (by rw [List.length_take]; omega), List.length_take]
      have : j - min j ds.length = 0 := by omega
      rw [this]; rfl
    · rw [List.getElem?_append_right (by rw [List.length_take]; omega), List.length_take]
      have : j + 1 - min j ds.length = 1 := by omega
      rw [this]
      show (ds.drop j)[0]? = _
      rw [List.getElem?_drop]; exact hd
  have p60 : (60 : Int) < 10 ^ 60 := by decide +kernel
  have st7 : ∀ (far : Int) (p : Addr) (zs : List V) (G : Hp), 10 ^ 60 ≤ far → Same H G → G p = some (.lst zs) → zs.length = 21 → (∀ z ∈ zs, BadStep b G z) → R__law_bad_steps_7 K A { nx := fun _ H' => Q .non H', rt := Q } [some (.int c), some (.ref a), some (.int b), some (.int j), some (.int i), some (kV m), some (.ref p), some (.int far), none] G := by
    intro far p zs G hfar S hp hl P
    unfold R__law_bad_steps_7 tSeq tAsg
    refine more_all mo rfl hp hl P (gn_cons mo (g_tup [.int far, kV m] (by simp) (fun R h => h) (fun p H' _ hp => ⟨.tup [.int far, datK m], .tup hp (.cons (.int _) (.cons (dat_kV _ m) .nil)), badD (.inr (by omega))⟩)) fun H0 s0 => (gn_cons mo (g_tup [.int (-far), kV m] (by simp) (fun R h => h) (fun p H' _ hp => ⟨.tup [.int (-far), datK m], .tup hp (.cons (.int _) (.cons (dat_kV _ m) .nil)), badD (.inl (by omega))⟩)) fun H1 s1 => (gn_cons mo (g_tup [.int i, .int far] (by simp) (fun R h => h) (fun p H' _ hp => ⟨.tup [.int i, .int far], .tup hp (.cons (.int _) (.cons (.int _) .nil)), badM (no_stamp (.inr hfar))⟩)) fun H2 s2 => (gn_cons mo (g_tup [.int i, .int (-far)] (by simp) (fun R h => h) (fun p H' _ hp => ⟨.tup [.int i, .int (-far)], .tup hp (.cons (.int _) (.cons (.int _) .nil)), badM (no_stamp (.inl (by omega)))⟩)) fun H3 s3 => (gn_cons mo (g_tup [.int i, .bl false] (by simp) (fun R h => h) (fun p H' _ hp => ⟨.tup [.int i, .bl false], .tup hp (.cons (.int _) (.cons (.bl _) .nil)), badM rfl⟩)) fun H4 s4 => (gn_cons mo (g_tup [.bl (decide (0 < i)), kV m] (by simp) (fun R h => h) (fun p H' _ hp => ⟨.tup [.bl (decide (0 < i)), datK m], .tup hp (.cons (.bl _) (.cons (dat_kV _ m) .nil)), rfl⟩)) fun H5 s5 => gn_nil)))))) (by decide) fun p2 z2 G2 S2 hp2 hl2 P2 => ?_
    exact fin far p2 z2 G2 (S.trans S2) hp2 hl2 P2
  have st6 : ∀ (p : Addr) (zs : List V) (G : Hp), Same H G → G p = some (.lst zs) → zs.length = 21 → (∀ z ∈ zs, BadStep b G z) → R__law_bad_steps_6 K A { nx := fun _ H' => Q .non H', rt := Q } [some (.int c), some (.ref a), some (.int b), some (.int j), some (.int i), some (kV m), some (.ref p), none, none] G := by
    intro p zs G S hp hl P
    refine ⟨⟨by decide, by decide, by decide⟩, ⟨by decide, by decide, by decide⟩, by show ¬ _; decide +kernel, ?_⟩
    exact st7 _ p zs G (by decide +kernel) S hp hl P
  have st5 : ∀ (p : Addr) (zs : List V) (G : Hp), Same H G → G p = some (.lst zs) → zs.length = 17 → (∀ z ∈ zs, BadStep b G z) → R__law_bad_steps_5 K A { nx := fun _ H' => Q .non H', rt := Q } [some (.int c), some (.ref a), some (.int b), some (.int j), some (.int i), some (kV m), some (.ref p), none, none] G := by
    intro p zs G S hp hl P
    unfold R__law_bad_steps_5 tSeq tAsg
    refine more_all mo rfl hp hl P (gn_cons mo (fun R h => ⟨kV m, datK m, rfl, dat_kV _ m, okm, by rw [dp_datK]; decide, fun v' ds' H' s' w' _ _ => ⟨line_ge (n := 2) (by decide), fun p hp => h _ _ (s'.trans (Same.upd hp)) ⟨.tup [.int i, .lst ds'], .tup upd_same (.cons (.int _) (.cons (w'.mono (Same.upd hp)) .nil)), badM rfl⟩⟩⟩) fun H0 s0 => (gn_cons mo (fun R h => ⟨.int i, .int i, rfl, .int _, rfl, Nat.zero_le _, fun v' ds' H' s' w' _ _ => h _ _ s' ⟨.lst ds', w', rfl⟩⟩) fun H1 s1 => (gn_cons mo (fun R h => .inl fun d hd => ⟨line_ge (n := 2) (by decide), fun p hp => h _ _ ((Same.upd hd).trans (Same.upd hp)) ⟨.tup [.int i, .dic], .tup upd_same (.cons (.int _) (.cons (.dic (.inl ⟨[], Same.upd hp _ _ upd_same⟩)) .nil)), badM rfl⟩⟩) fun H2 s2 => (gn_cons mo (g_tup [.bl false, kV m] (by simp) (fun R h => h) (fun p H' _ hp => ⟨.tup [.bl false, datK m], .tup hp (.cons (.bl _) (.cons (dat_kV _ m) .nil)), rfl⟩)) fun H3 s3 => gn_nil)))) (by decide) fun p2 z2 G2 S2 hp2 hl2 P2 => ?_
    exact st6 p2 z2 G2 (S.trans S2) hp2 hl2 P2
  have st4 : ∀ (p : Addr) (zs : List V) (G : Hp), Same H G → G p = some (.lst zs) → zs.length = 12 → (∀ z ∈ zs, BadStep b G z) → R__law_bad_steps_4 K A { nx := fun _ H' => Q .non H', rt := Q } [some (.int c), some (.ref a), some (.int b), some (.int j), some (.int i), some (kV m), some (.ref p), none, none] G := by
    intro p zs G S hp hl P
    unfold R__law_bad_steps_4 tSeq tAsg
    refine more_all mo rfl hp hl P (gn_cons mo (g_tup [.int i, .int (10 ^ (60 : Int).toNat)] (by simp) (fun R h => ⟨⟨by decide, by decide, by decide⟩, h⟩) (fun p H' _ hp => ⟨.tup [.int i, .int (10 ^ (60 : Int).toNat)], .tup hp (.cons (.int _) (.cons (.int _) .nil)), badM (no_stamp (.inr (Int.le_refl _)))⟩)) fun H0 s0 => (gn_cons mo (g_tup [.int i, .non] (by simp) (fun R h => h) (fun p H' _ hp => ⟨.tup [.int i, .non], .tup hp (.cons (.int _) (.cons .non .nil)), badM rfl⟩)) fun H1 s1 => (gn_cons mo (g_tup [.int i, .bl true] (by simp) (fun R h => h) (fun p H' _ hp => ⟨.tup [.int i, .bl true], .tup hp (.cons (.int _) (.cons (.bl _) .nil)), badM rfl⟩)) fun H2 s2 => (gn_cons mo (fun R h => ⟨line_ge (n := 1) (by decide), fun l hl => ⟨line_ge (n := 2) (by decide), fun p hp => h _ _ ((Same.upd hl).trans (Same.upd hp)) ⟨.tup [.int i, .lst [datK m]], .tup upd_same (.cons (.int _) (.cons (.lst (Same.upd hp _ _ upd_same) (.cons (dat_kV _ m) .nil)) .nil)), badM rfl⟩⟩⟩) fun H3 s3 => (gn_cons mo (fun R h => ⟨line_ge (n := 1) (by decide), fun l hl => ⟨line_ge (n := 2) (by decide), fun p hp => h _ _ ((Same.upd hl).trans (Same.upd hp)) ⟨.tup [.int i, .tup [datK m]], .tup upd_same (.cons (.int _) (.cons (.tup (Same.upd hp _ _ upd_same) (.cons (dat_kV _ m) .nil)) .nil)), badM rfl⟩⟩⟩) fun H4 s4 => gn_nil))))) (by decide) fun p2 z2 G2 S2 hp2 hl2 P2 => ?_
    exact st5 p2 z2 G2 (S.trans S2) hp2 hl2 P2
  have st3 : ∀ (p : Addr) (zs : List V) (G : Hp), Same H G → G p = some (.lst zs) → zs.length = 7 → (∀ z ∈ zs, BadStep b G z) → R__law_bad_steps_3 K A { nx := fun _ H' => Q .non H', rt := Q } [some (.int c), some (.ref a), some (.int b), some (.int j), some (.int i), some (kV m), some (.ref p), none, none] G := by
    intro p zs G S hp hl P
    unfold R__law_bad_steps_3 tSeq tAsg
    refine more_all mo rfl hp hl P (gn_cons mo (g_tup [.bl true, kV m] (by simp) (fun R h => h) (fun p H' _ hp => ⟨.tup [.bl true, datK m], .tup hp (.cons (.bl _) (.cons (dat_kV _ m) .nil)), rfl⟩)) fun H0 s0 => (gn_cons mo (g_tup [.non, kV m] (by simp) (fun R h => h) (fun p H' _ hp => ⟨.tup [.non, datK m], .tup hp (.cons .non (.cons (dat_kV _ m) .nil)), rfl⟩)) fun H1 s1 => (gn_cons mo (g_tup [.str "0", kV m] (by simp) (fun R h => h) (fun p H' _ hp => ⟨.tup [.str "0", datK m], .tup hp (.cons (.str _) (.cons (dat_kV _ m) .nil)), rfl⟩)) fun H2 s2 => (gn_cons mo (g_tup [.int (b + i), kV m] (by simp) (fun R h => h) (fun p H' _ hp => ⟨.tup [.int (b + i), datK m], .tup hp (.cons (.int _) (.cons (dat_kV _ m) .nil)), badD (.inr (by omega))⟩)) fun H3 s3 => (gn_cons mo (g_tup [.int i, .int (-1)] (by simp) (fun R h => h) (fun p H' _ hp => ⟨.tup [.int i, .int (-1)], .tup hp (.cons (.int _) (.cons (.int _) .nil)), badM (no_stamp (.inl (by decide)))⟩)) fun H4 s4 => gn_nil))))) (by decide) fun p2 z2 G2 S2 hp2 hl2 P2 => ?_
    exact st4 p2 z2 G2 (S.trans S2) hp2 hl2 P2
  unfold R__law_bad_steps_2 tSeq tAsg
  refine lst_all mo (gn_cons mo (g_tup [.int i] (by simp) (fun R h => h) (fun p H' _ hp => ⟨.tup [.int i], .tup hp (.cons (.int _) .nil), rfl⟩)) fun H0 s0 => (gn_cons mo (g_tup [.int i, kV m, kV m] (by simp) (fun R h => h) (fun p H' _ hp => ⟨.tup [.int i, datK m, datK m], .tup hp (.cons (.int _) (.cons (dat_kV _ m) (.cons (dat_kV _ m) .nil))), rfl⟩)) fun H1 s1 => (gn_cons mo (g_lst [.int i, kV m] (by simp) (fun R h => h) (fun p H' _ hp => ⟨.lst [.int i, datK m], .lst hp (.cons (.int _) (.cons (dat_kV _ m) .nil)), rfl⟩)) fun H2 s2 => (gn_cons mo (g_val (.int i) (fun R h => h) ⟨.int i, .int _, rfl⟩) fun H3 s3 => (gn_cons mo (g_val .non (fun R h => h) ⟨.non, .non, rfl⟩) fun H4 s4 => (gn_cons mo (g_tup [.int (-1), kV m] (by simp) (fun R h => h) (fun p H' _ hp => ⟨.tup [.int (-1), datK m], .tup hp (.cons (.int _) (.cons (dat_kV _ m) .nil)), badD (.inl (by decide))⟩)) fun H5 s5 => (gn_cons mo (g_tup [.int b, kV m] (by simp) (fun R h => h) (fun p H' _ hp => ⟨.tup [.int b, datK m], .tup hp (.cons (.int _) (.cons (dat_kV _ m) .nil)), badD (.inr (Int.le_refl b))⟩)) fun H6 s6 => gn_nil))))))) (by decide) fun p2 z2 G2 S2 hp2 hl2 P2 => ?_
  exact st3 p2 z2 G2 S2 hp2 hl2 P2
end Rs
namespace Rs
open PySem PySem.Spec PyProof.Rows L2
def BadEnd (b k l : Int) (H : Hp) (v : V) : Prop := ∃ d, DatW H v d ∧ endOk d ∧ isEndD b k l d = false
theorem BadEnd.mono (b k l : Int) : Mono (BadEnd b k l) := fun _ _ _ s ⟨d, w, h⟩ => ⟨d, w.mono s, h⟩
theorem ok1 {a : Dat} (ha : okD a = true) (da : (toPy a).depth ≤ 101) : endOk (.tup [a]) := .inl ⟨by show (okD a && true) = true; rw [ha]; rfl, by show max (toPy a).depth 0 + 1 ≤ 140; omega⟩
theorem ok2 {a b : Dat} (ha : okD a = true) (hb : okD b = true) (da : (toPy a).depth ≤ 101) (db : (toPy b).depth ≤ 101) : endOk (.tup [a, b]) := .inl ⟨by show (okD a && (okD b && true)) = true; rw [ha, hb]; rfl, by show max (toPy a).depth (max (toPy b).depth 0) + 1 ≤ 140; omega⟩
theorem ok3 {a b c : Dat} (ha : okD a = true) (hb : okD b = true) (hc : okD c = true) (da : (toPy a).depth ≤ 101) (db : (toPy b).depth ≤ 101) (dc : (toPy c).depth ≤ 101) : endOk (.tup [a, b, c]) := .inl ⟨by show (okD a && (okD b && (okD c && true))) = true; rw [ha, hb, hc]; rfl, by show max (toPy a).depth (max (toPy b).depth (max (toPy c).depth 0)) + 1 ≤ 140; omega⟩
theorem ok4 {a b c d : Dat} (ha : okD a = true) (hb : okD b = true) (hc : okD c = true) (hd : okD d = true) (da : (toPy a).depth ≤ 101) (db : (toPy b).depth ≤ 101) (dc : (toPy c).depth ≤ 101) (dd : (toPy d).depth ≤ 101) : endOk (.tup [a, b, c, d]) := .inl ⟨by show (okD a && (okD b && (okD c && (okD d && true)))) = true; rw [ha, hb, hc, hd]; rfl, by show max (toPy a).depth (max (toPy b).depth (max (toPy c).depth (max (toPy d).depth 0))) + 1 ≤ 140; omega⟩
theorem ok5 {a b c d e : Dat} (ha : okD a = true) (hb : okD b = true) (hc : okD c = true) (hd : okD d = true) (he : okD e = true) (da : (toPy a).depth ≤ 101) (db : (toPy b).depth ≤ 101) (dc : (toPy c).depth ≤ 101) (dd : (toPy d).depth ≤ 101) (de : (toPy e).depth ≤ 101) : endOk (.tup [a, b, c, d, e]) := .inl ⟨by show (okD a && (okD b && (okD c && (okD d && (okD e && true))))) = true; rw [ha, hb, hc, hd, he]; rfl, by show max (toPy a).depth (max (toPy b).depth (max (toPy c).depth (max (toPy d).depth (max (toPy e).depth 0)))) + 1 ≤ 140; omega⟩
theorem ok6 {a b c d e f : Dat} (ha : okD a = true) (hb : okD b = true) (hc : okD c = true) (hd : okD d = true) (he : okD e = true) (hf : okD f = true) (da : (toPy a).depth ≤ 101) (db : (toPy b).depth ≤ 101) (dc : (toPy c).depth ≤ 101) (dd : (toPy d).depth ≤ 101) (de : (toPy e).depth ≤ 101) (df : (toPy f).depth ≤ 101) : endOk (.tup [a, b, c, d, e, f]) := .inl ⟨by show (okD a && (okD b && (okD c && (okD d && (okD e && (okD f && true)))))) = true; rw [ha, hb, hc, hd, he, hf]; rfl, by show max (toPy a).depth (max (toPy b).depth (max (toPy c).depth (max (toPy d).depth (max (toPy e).depth (max (toPy f).depth 0))))) + 1 ≤ 140; omega⟩
theorem okL1 {a : Dat} (ha : okD a = true) (da : (toPy a).depth ≤ 101) : endOk (.lst [a]) := .inl ⟨by show (okD a && true) = true; rw [ha]; rfl, by show max (toPy a).depth 0 + 1 ≤ 140; omega⟩
theorem okL3 {a b c : Dat} (ha : okD a = true) (hb : okD b = true) (hc : okD c = true) (da : (toPy a).depth ≤ 101) (db : (toPy b).depth ≤ 101) (dc : (toPy c).depth ≤ 101) : endOk (.lst [a, b, c]) := .inl ⟨by show (okD a && (okD b && (okD c && true))) = true; rw [ha, hb, hc]; rfl, by show max (toPy a).depth (max (toPy b).depth (max (toPy c).depth 0)) + 1 ≤ 140; omega⟩
theorem okL5 {a b c d e : Dat} (ha : okD a = true) (hb : okD b = true) (hc : okD c = true) (hd : okD d = true) (he : okD e = true) (da : (toPy a).depth ≤ 101) (db : (toPy b).depth ≤ 101) (dc : (toPy c).depth ≤ 101) (dd : (toPy d).depth ≤ 101) (de : (toPy e).depth ≤ 101) : endOk (.lst [a, b, c, d, e]) := .inl ⟨by show (okD a && (okD b && (okD c && (okD d && (okD e && true))))) = true; rw [ha, hb, hc, hd, he]; rfl, by show max (toPy a).depth (max (toPy b).depth (max (toPy c).depth (max (toPy d).depth (max (toPy e).depth 0)))) + 1 ≤ 140; omega⟩
theorem end1 {b k l : Int} {w : Dat} (h : isStrD "bare" w = false) : isEndD b k l (.tup [w]) = false := by
  unfold isEndD
  have e : isBareD (.tup [w]) = false := h
  rw [e]; rfl
theorem end_bare {b k l : Int} (h : l ≠ 0) : isEndD b k l (.tup [.str "bare"]) = false := by
  unfold isEndD
  have e : isBareD (.tup [.str "bare"]) = true := by show decide (("bare" : Str) = "bare") = true; exact decide_eq_true rfl
  rw [e, if_pos rfl]; exact decide_eq_false h
theorem end3 {b k l x : Int} {w z : Dat} (h : isStrD "leaf" w = false ∨ (x < 0 ∨ 2 ^ b.toNat ≤ x) ∨ isValueD z = false ∨ startI b x l ≠ startI b k l) : isEndD b k l (.tup [w, .int x, z]) = false := by
  unfold isEndD
  have e : isBareD (.tup [w, .int x, z]) = false := rfl
  have e2 : isLeafD b l (startI b k l) (.tup [w, .int x, z]) = false := by
    show (isStrD "leaf" w && decide (0 ≤ x ∧ x < 2 ^ b.toNat) && isValueD z && decide (startI b x l = startI b k l)) = false
    rcases h with h | h | h | h
    · rw [h]; rfl
    · rw [decide_eq_false (by omega : ¬ (0 ≤ x ∧ x < 2 ^ b.toNat))]; simp
    · rw [h]; simp
    · rw [decide_eq_false h]; simp
  have e3 : isForkD b l (startI b k l) (.tup [w, .int x, z]) = false := by cases z <;> rfl
  rw [e, e2, e3]; rfl
theorem end5 {b k l e bb : Int} {w m n : Dat} (h : isStrD "fork" w = false ∨ (e < l ∨ b ≤ e) ∨ (bb < 0 ∨ 2 ^ e.toNat ≤ bb) ∨ bb / 2 ^ (e - l).toNat ≠ startI b k l ∨ bb = startI b k e ∨ isStampD m = false ∨ isStampD n = false) : isEndD b k l (.tup [w, .int e, .int bb, m, n]) = false := by
  unfold isEndD
  have e1 : isBareD (.tup [w, .int e, .int bb, m, n]) = false := rfl
  have e2 : isLeafD b l (startI b k l) (.tup [w, .int e, .int bb, m, n]) = false := rfl
  have e3 : (isForkD b l (startI b k l) (.tup [w, .int e, .int bb, m, n]) && tailD b k (.tup [w, .int e, .int bb, m, n])) = false := by
    show ((isStrD "fork" w && decide (l ≤ e ∧ e < b) && decide (0 ≤ bb ∧ bb < 2 ^ e.toNat) && decide (bb / 2 ^ (e - l).toNat = startI b k l)) && (!decide (bb = startI b k e) && isStampD m && isStampD n)) = false
    rcases h with h | h | h | h | h | h | h
    · rw [h]; rfl
    · rw [decide_eq_false (by omega : ¬ (l ≤ e ∧ e < b))]; simp
    · rw [decide_eq_false (by omega : ¬ (0 ≤ bb ∧ bb < 2 ^ e.toNat))]; simp
    · rw [decide_eq_false h]; simp
    · rw [decide_eq_true h]; simp
    · rw [h]; simp
    · rw [h]; simp
  rw [e1, e2, e3]; rfl
theorem turned {x p q : Nat} (h : q ≤ p) : (x ^^^ 2 ^ p) / 2 ^ q ≠ x / 2 ^ q := by
  intro e
  rw [← Nat.shiftRight_eq_div_pow, ← Nat.shiftRight_eq_div_pow, Nat.shiftRight_xor_distrib] at e
  have e2 : 2 ^ p >>> q = 2 ^ (p - q) := by rw [Nat.shiftRight_eq_div_pow]; exact Nat.pow_div h (by decide)
  rw [e2] at e
  have e3 : 2 ^ (p - q) = 0 := by
    have : x >>> q ^^^ (x >>> q ^^^ 2 ^ (p - q)) = x >>> q ^^^ x >>> q := by rw [e]
    rw [← Nat.xor_assoc, Nat.xor_self, Nat.zero_xor] at this; exact this
  have := Nat.two_pow_pos (p - q)
  omega
theorem turnedI {x : Int} {p q : Nat} (x0 : 0 ≤ x) (h : q ≤ p) : Builtin.bitXor x (1 * 2 ^ p) / 2 ^ q ≠ x / 2 ^ q := by
  obtain ⟨y, rfl⟩ := Int.eq_ofNat_of_zero_le x0
  have e : (1 : Int) * 2 ^ p = ((2 ^ p : Nat) : Int) := by rw [Int.one_mul, pow2z]
  rw [e, bitXor_nat, ← pow2z]
  intro z
  exact turned (x := y) h (by exact_mod_cast z)
def LL (K : PySem.W.Frag) (A : Adr) : TS := tAsg (tOp (mAddG K) (mVar 4) (tLst (tCons (tTup (tCons (tC (.str "bare")) (tNil))) (tCons (tTup (tCons (tC (.str "leaf")) (tCons (tOp (mXor) (mVar 1) (mVar 5)) (tCons (tC (.str "a")) (tNil))))) (tCons (tTup (tCons (tC (.str "leaf")) (tCons (tOp (mXor) (mVar 1) (mVar 5)) (tCons (tC (.str "")) (tNil))))) (tNil)))))) (gName 4)
variable {K : PySem.W.Frag} {mg : Str → Option Value} {A : Adr}
theorem len__law_bad_leaves (K : PySem.W.Frag) (A : Adr) : ∀ vs H Q E, sp__law_bad_leaves K A vs H Q E → vs.length = 4 := by rintro vs H Q E ⟨b, k, l, n, rfl, _⟩; rfl
theorem rd__law_bad_leaves (T : Txt K mg A) (vs : List V) (H : Hp) (Q : VK) (E : XK) (h : sp__law_bad_leaves K A vs H Q E) : T__law_bad_leaves K A { nx := fun _ H' => Q .non H', rt := Q } (L2.start ["_law_bits_here", "_law_key_here", "_law_low", "_law_number", "_law_some", "_law_flip"] vs) H := by
  obtain ⟨b, k, l, n, rfl, l0, lb, b1, b60, k0, k1, q⟩ := h
  have mo := BadEnd.mono b k l
  have hb60 : b.toNat ≤ 60 := by omega
  have hp2 := pow2_pos b.toNat
  have fin : ∀ (p : Addr) (zs : List V) (G : Hp) (x5 : Option V), Same H G → G p = some (.lst zs) → 1 ≤ zs.length → (∀ z ∈ zs, BadEnd b k l G z) → R__law_bad_leaves_7 K A { nx := fun _ H' => Q .non H', rt := Q } [some (.int b), some (.int k), some (.int l), some (.int n), some (.ref p), x5] G := by
    intro p zs G x5 S hp hl P
    exact q p zs G S hp (fun z => by rw [z] at hl; simp at hl) P
  have st6 : ∀ (p : Addr) (zs : List V) (G : Hp), Same H G → G p = some (.lst zs) → zs.length = 30 → (∀ z ∈ zs, BadEnd b k l G z) → R__law_bad_leaves_6 K A { nx := fun _ H' => Q .non H', rt := Q } [some (.int b), some (.int k), some (.int l), some (.int n), some (.ref p), none] G := by
    intro p zs G S hp hl P
    refine Sel.dec (fun hpos => ?_) (fun _ => fin p zs G none S hp (by omega) P)
    have r0 := Int.emod_nonneg n (b := l) (by omega)
    have r1 := Int.emod_lt_of_pos n (b := l) hpos
    have hne : startI b (Builtin.bitXor k (1 * 2 ^ (b - 1 - n % l).toNat)) l ≠ startI b k l := turnedI k0 (by omega)
    refine ⟨hpos, ⟨by omega, by omega, by decide⟩, ?_⟩
    show LL K A _ [some (.int b), some (.int k), some (.int l), some (.int n), some (.ref p), some (.int (1 * 2 ^ (b - 1 - n % l).toNat))] G
    unfold LL tAsg
    refine more_all (i := 4) mo rfl hp hl P (gn_cons mo (g_tup [.str "bare"] (by simp) (fun R h => h) (fun p H' _ hp => ⟨.tup [.str "bare"], .tup hp (.cons (.str _) .nil), ok1 (by decide +kernel) (Nat.zero_le _), end_bare (by omega)⟩)) fun _ _ => (gn_cons mo (g_tup [.str "leaf", .int (Builtin.bitXor k (1 * 2 ^ (b - 1 - n % l).toNat)), .str "a"] (by simp) (fun R h => h) (fun p H' _ hp => ⟨.tup [.str "leaf", .int (Builtin.bitXor k (1 * 2 ^ (b - 1 - n % l).toNat)), .str "a"], .tup hp (.cons (.str _) (.cons (.int _) (.cons (.str _) .nil))), ok3 (by decide +kernel) rfl (by decide +kernel) (Nat.zero_le _) (Nat.zero_le _) (Nat.zero_le _), end3 (.inr (.inr (.inr hne)))⟩)) fun _ _ => (gn_cons mo (g_tup [.str "leaf", .int (Builtin.bitXor k (1 * 2 ^ (b - 1 - n % l).toNat)), .str ""] (by simp) (fun R h => h) (fun p H' _ hp => ⟨.tup [.str "leaf", .int (Builtin.bitXor k (1 * 2 ^ (b - 1 - n % l).toNat)), .str ""], .tup hp (.cons (.str _) (.cons (.int _) (.cons (.str _) .nil))), ok3 (by decide +kernel) rfl (by decide +kernel) (Nat.zero_le _) (Nat.zero_le _) (Nat.zero_le _), end3 (.inr (.inr (.inr hne)))⟩)) fun _ _ => gn_nil))) (by decide) fun p2 z2 G2 S2 hp2 hl2 P2 => ?_
    exact fin p2 z2 G2 (some (.int (1 * 2 ^ (b - 1 - n % l).toNat))) (S.trans S2) hp2 (by omega) P2
  have st5 : ∀ (p : Addr) (zs : List V) (G : Hp), Same H G → G p = some (.lst zs) → zs.length = 27 → (∀ z ∈ zs, BadEnd b k l G z) → R__law_bad_leaves_5 K A { nx := fun _ H' => Q .non H', rt := Q } [some (.int b), some (.int k), some (.int l), some (.int n), some (.ref p), none] G := by
    intro p zs G S hp hl P
    unfold R__law_bad_leaves_5 tSeq tAsg
    refine more_all mo rfl hp hl P (gn_cons mo (g_tup [.str "leaf", .bl (decide (0 < k)), .str "a"] (by simp) (fun R h => h) (fun p H' _ hp => ⟨.tup [.str "leaf", .bl (decide (0 < k)), .str "a"], .tup hp (.cons (.str _) (.cons (.bl _) (.cons (.str _) .nil))), ok3 (by decide +kernel) rfl (by decide +kernel) (Nat.zero_le _) (Nat.zero_le _) (Nat.zero_le _), rfl⟩)) fun _ _ => (gn_cons mo (g_tup [.str "leaf", .int (10 ^ (45 : Int).toNat * 10 ^ (45 : Int).toNat), .str ""] (by simp) (fun R h => ⟨⟨by decide, by decide, by decide⟩, ⟨by decide, by decide, by decide⟩, by show ¬ _; decide +kernel, h⟩) (fun p H' _ hp => ⟨.tup [.str "leaf", .int (10 ^ (45 : Int).toNat * 10 ^ (45 : Int).toNat), .str ""], .tup hp (.cons (.str _) (.cons (.int _) (.cons (.str _) .nil))), ok3 (by decide +kernel) rfl (by decide +kernel) (Nat.zero_le _) (Nat.zero_le _) (Nat.zero_le _), end3 (.inr (.inl (.inr (Int.le_trans (pow2_60 hb60) (by decide +kernel)))))⟩)) fun _ _ => (gn_cons mo (g_tup [.str "leaf", .int (-(10 ^ (45 : Int).toNat)), .str ""] (by simp) (fun R h => ⟨⟨by decide, by decide, by decide⟩, h⟩) (fun p H' _ hp => ⟨.tup [.str "leaf", .int (-(10 ^ (45 : Int).toNat)), .str ""], .tup hp (.cons (.str _) (.cons (.int _) (.cons (.str _) .nil))), ok3 (by decide +kernel) rfl (by decide +kernel) (Nat.zero_le _) (Nat.zero_le _) (Nat.zero_le _), end3 (.inr (.inl (.inl (by decide +kernel))))⟩)) fun _ _ => gn_nil))) (by decide) fun p2 z2 G2 S2 hp2 hl2 P2 => ?_
    exact st6 p2 z2 G2 (S.trans S2) hp2 hl2 P2
  have st4 : ∀ (p : Addr) (zs : List V) (G : Hp), Same H G → G p = some (.lst zs) → zs.length = 23 → (∀ z ∈ zs, BadEnd b k l G z) → R__law_bad_leaves_4 K A { nx := fun _ H' => Q .non H', rt := Q } [some (.int b), some (.int k), some (.int l), some (.int n), some (.ref p), none] G := by
    intro p zs G S hp hl P
    unfold R__law_bad_leaves_4 tSeq tAsg
    refine more_all mo rfl hp hl P (gn_cons mo (g_tup [.str "leaf", .int (k + 1 * 2 ^ b.toNat), .str ""] (by simp) (fun R h => ⟨⟨by omega, by omega, by decide⟩, h⟩) (fun p H' _ hp => ⟨.tup [.str "leaf", .int (k + 1 * 2 ^ b.toNat), .str ""], .tup hp (.cons (.str _) (.cons (.int _) (.cons (.str _) .nil))), ok3 (by decide +kernel) rfl (by decide +kernel) (Nat.zero_le _) (Nat.zero_le _) (Nat.zero_le _), end3 (.inr (.inl (.inr (by omega))))⟩)) fun _ _ => (gn_cons mo (fun R h => ⟨line_ge (n := 1) (by decide), fun l' hl => ⟨line_ge (n := 3) (by decide), fun p hp => h _ _ ((Same.upd hl).trans (Same.upd hp)) ⟨.tup [.str "leaf", .int k, .tup [.str "a"]], .tup upd_same (.cons (.str _) (.cons (.int _) (.cons (.tup (Same.upd hp _ _ upd_same) (.cons (.str _) .nil)) .nil))), ok3 (by decide +kernel) rfl (by decide +kernel) (Nat.zero_le _) (Nat.zero_le _) (by show max 0 0 + 1 ≤ 101; decide), end3 (.inr (.inr (.inl rfl)))⟩⟩⟩) fun _ _ => (gn_cons mo (fun R h => ⟨line_ge (n := 1) (by decide), fun l' hl => ⟨line_ge (n := 1) (by decide), fun p hp => h _ _ ((Same.upd hl).trans (Same.upd hp)) ⟨.tup [.tup [.str "bare"]], .tup upd_same (.cons (.tup (Same.upd hp _ _ upd_same) (.cons (.str _) .nil)) .nil), ok1 (by decide +kernel) (by show max 0 0 + 1 ≤ 101; decide), end1 rfl⟩⟩⟩) fun _ _ => (gn_cons mo (fun R h => ⟨.int k, .int k, rfl, .int _, rfl, Nat.zero_le _, fun v' ds' H' s' w' ok' dp' => ⟨line_ge (n := 3) (by decide), fun p hp => h _ _ (s'.trans (Same.upd hp)) ⟨.tup [.str "leaf", .lst ds', .str ""], .tup upd_same (.cons (.str _) (.cons (w'.mono (Same.upd hp)) (.cons (.str _) .nil))), ok3 (by decide +kernel) ok' (by decide +kernel) (Nat.zero_le _) (by show PyData.depthAll (toPys ds') + 1 ≤ 101; omega) (Nat.zero_le _), rfl⟩⟩⟩) fun _ _ => gn_nil)))) (by decide) fun p2 z2 G2 S2 hp2 hl2 P2 => ?_
    exact st5 p2 z2 G2 (S.trans S2) hp2 hl2 P2
  have st3 : ∀ (p : Addr) (zs : List V) (G : Hp), Same H G → G p = some (.lst zs) → zs.length = 16 → (∀ z ∈ zs, BadEnd b k l G z) → R__law_bad_leaves_3 K A { nx := fun _ H' => Q .non H', rt := Q } [some (.int b), some (.int k), some (.int l), some (.int n), some (.ref p), none] G := by
    intro p zs G S hp hl P
    unfold R__law_bad_leaves_3 tSeq tAsg
    refine more_all mo rfl hp hl P (gn_cons mo (g_tup [.str "leaf", .int (k), .int (7)] (by simp) (fun R h => h) (fun p H' _ hp => ⟨.tup [.str "leaf", .int (k), .int (7)], .tup hp (.cons (.str _) (.cons (.int _) (.cons (.int _) .nil))), ok3 (by decide +kernel) rfl rfl (Nat.zero_le _) (Nat.zero_le _) (Nat.zero_le _), end3 (.inr (.inr (.inl rfl)))⟩)) fun _ _ => (gn_cons mo (fun R h => ⟨line_ge (n := 1) (by decide), fun l' hl => ⟨line_ge (n := 3) (by decide), fun p hp => h _ _ ((Same.upd hl).trans (Same.upd hp)) ⟨.tup [.str "leaf", .int k, .lst [.str "a"]], .tup upd_same (.cons (.str _) (.cons (.int _) (.cons (.lst (Same.upd hp _ _ upd_same) (.cons (.str _) .nil)) .nil))), ok3 (by decide +kernel) rfl (by decide +kernel) (Nat.zero_le _) (Nat.zero_le _) (by show max 0 0 + 1 ≤ 101; decide), end3 (.inr (.inr (.inl rfl)))⟩⟩⟩) fun _ _ => (gn_cons mo (g_lst [.str "bare"] (by simp) (fun R h => h) (fun p H' _ hp => ⟨.lst [.str "bare"], .lst hp (.cons (.str _) .nil), okL1 (by decide +kernel) (Nat.zero_le _), rfl⟩)) fun _ _ => (gn_cons mo (fun R h => .inl fun d hd => h _ _ (Same.upd hd) ⟨.dic, .dic (.inl ⟨[], upd_same⟩), .inr rfl, rfl⟩) fun _ _ => (gn_cons mo (g_tup [.str ""] (by simp) (fun R h => h) (fun p H' _ hp => ⟨.tup [.str ""], .tup hp (.cons (.str _) .nil), ok1 (by decide +kernel) (Nat.zero_le _), end1 (by decide +kernel)⟩)) fun _ _ => (gn_cons mo (g_tup [.non, .int (k), .str "a"] (by simp) (fun R h => h) (fun p H' _ hp => ⟨.tup [.non, .int (k), .str "a"], .tup hp (.cons .non (.cons (.int _) (.cons (.str _) .nil))), ok3 rfl rfl (by decide +kernel) (Nat.zero_le _) (Nat.zero_le _) (Nat.zero_le _), end3 (.inl rfl)⟩)) fun _ _ => (gn_cons mo (g_tup [.str "bar"] (by simp) (fun R h => h) (fun p H' _ hp => ⟨.tup [.str "bar"], .tup hp (.cons (.str _) .nil), ok1 (by decide +kernel) (Nat.zero_le _), end1 (by decide +kernel)⟩)) fun _ _ => gn_nil))))))) (by decide) fun p2 z2 G2 S2 hp2 hl2 P2 => ?_
    exact st4 p2 z2 G2 (S.trans S2) hp2 hl2 P2
  have st2 : ∀ (p : Addr) (zs : List V) (G : Hp), Same H G → G p = some (.lst zs) → zs.length = 12 → (∀ z ∈ zs, BadEnd b k l G z) → R__law_bad_leaves_2 K A { nx := fun _ H' => Q .non H', rt := Q } [some (.int b), some (.int k), some (.int l), some (.int n), some (.ref p), none] G := by
    intro p zs G S hp hl P
    unfold R__law_bad_leaves_2 tSeq tAsg
    refine more_all mo rfl hp hl P (gn_cons mo (g_tup [.str "leaf", .non, .str ""] (by simp) (fun R h => h) (fun p H' _ hp => ⟨.tup [.str "leaf", .non, .str ""], .tup hp (.cons (.str _) (.cons .non (.cons (.str _) .nil))), ok3 (by decide +kernel) rfl (by decide +kernel) (Nat.zero_le _) (Nat.zero_le _) (Nat.zero_le _), rfl⟩)) fun _ _ => (gn_cons mo (g_tup [.str "leaf", .str "5", .str ""] (by simp) (fun R h => h) (fun p H' _ hp => ⟨.tup [.str "leaf", .str "5", .str ""], .tup hp (.cons (.str _) (.cons (.str _) (.cons (.str _) .nil))), ok3 (by decide +kernel) (by decide +kernel) (by decide +kernel) (Nat.zero_le _) (Nat.zero_le _) (Nat.zero_le _), rfl⟩)) fun _ _ => (gn_cons mo (g_tup [.str "leaf", .int (k), .str (PySem.Txt.mul "a" 61)] (by simp) (fun R h => ⟨⟨by decide, by decide, by decide⟩, h⟩) (fun p H' _ hp => ⟨.tup [.str "leaf", .int (k), .str (PySem.Txt.mul "a" 61)], .tup hp (.cons (.str _) (.cons (.int _) (.cons (.str _) .nil))), ok3 (by decide +kernel) rfl (by decide +kernel) (Nat.zero_le _) (Nat.zero_le _) (Nat.zero_le _), end3 (.inr (.inr (.inl (by decide +kernel))))⟩)) fun _ _ => (gn_cons mo (g_tup [.str "leaf", .int (k), .non] (by simp) (fun R h => h) (fun p H' _ hp => ⟨.tup [.str "leaf", .int (k), .non], .tup hp (.cons (.str _) (.cons (.int _) (.cons .non .nil))), ok3 (by decide +kernel) rfl rfl (Nat.zero_le _) (Nat.zero_le _) (Nat.zero_le _), end3 (.inr (.inr (.inl rfl)))⟩)) fun _ _ => gn_nil)))) (by decide) fun p2 z2 G2 S2 hp2 hl2 P2 => ?_
    exact st3 p2 z2 G2 (S.trans S2) hp2 hl2 P2
  have st1 : ∀ (p : Addr) (zs : List V) (G : Hp), Same H G → G p = some (.lst zs) → zs.length = 6 → (∀ z ∈ zs, BadEnd b k l G z) → R__law_bad_leaves_1 K A { nx := fun _ H' => Q .non H', rt := Q } [some (.int b), some (.int k), some (.int l), some (.int n), some (.ref p), none] G := by
    intro p zs G S hp hl P
    unfold R__law_bad_leaves_1 tSeq tAsg
    refine more_all mo rfl hp hl P (gn_cons mo (g_tup [.str "bare", .int (0)] (by simp) (fun R h => h) (fun p H' _ hp => ⟨.tup [.str "bare", .int (0)], .tup hp (.cons (.str _) (.cons (.int _) .nil)), ok2 (by decide +kernel) rfl (Nat.zero_le _) (Nat.zero_le _), rfl⟩)) fun _ _ => (gn_cons mo (g_val .non (fun R h => h) ⟨.non, .non, .inl ⟨rfl, by decide⟩, rfl⟩) fun _ _ => (gn_cons mo (g_val (.str "bare") (fun R h => h) ⟨.str "bare", .str _, .inl ⟨by decide +kernel, by decide⟩, rfl⟩) fun _ _ => (gn_cons mo (g_tup [.str "leaf", .int (-1), .str "a"] (by simp) (fun R h => h) (fun p H' _ hp => ⟨.tup [.str "leaf", .int (-1), .str "a"], .tup hp (.cons (.str _) (.cons (.int _) (.cons (.str _) .nil))), ok3 (by decide +kernel) rfl (by decide +kernel) (Nat.zero_le _) (Nat.zero_le _) (Nat.zero_le _), end3 (.inr (.inl (.inl (by decide))))⟩)) fun _ _ => (gn_cons mo (g_tup [.str "leaf", .int (1 * 2 ^ b.toNat), .str "a"] (by simp) (fun R h => ⟨⟨by omega, by omega, by decide⟩, h⟩) (fun p H' _ hp => ⟨.tup [.str "leaf", .int (1 * 2 ^ b.toNat), .str "a"], .tup hp (.cons (.str _) (.cons (.int _) (.cons (.str _) .nil))), ok3 (by decide +kernel) rfl (by decide +kernel) (Nat.zero_le _) (Nat.zero_le _) (Nat.zero_le _), end3 (.inr (.inl (.inr (by omega))))⟩)) fun _ _ => (gn_cons mo (g_tup [.str "leaf", .bl (true), .str "a"] (by simp) (fun R h => h) (fun p H' _ hp => ⟨.tup [.str "leaf", .bl (true), .str "a"], .tup hp (.cons (.str _) (.cons (.bl _) (.cons (.str _) .nil))), ok3 (by decide +kernel) rfl (by decide +kernel) (Nat.zero_le _) (Nat.zero_le _) (Nat.zero_le _), rfl⟩)) fun _ _ => gn_nil)))))) (by decide) fun p2 z2 G2 S2 hp2 hl2 P2 => ?_
    exact st2 p2 z2 G2 (S.trans S2) hp2 hl2 P2
  unfold T__law_bad_leaves tSeq tAsg
  refine lst_all mo (gn_cons mo (g_tup [.str "leaf", .int (k)] (by simp) (fun R h => h) (fun p H' _ hp => ⟨.tup [.str "leaf", .int (k)], .tup hp (.cons (.str _) (.cons (.int _) .nil)), ok2 (by decide +kernel) rfl (Nat.zero_le _) (Nat.zero_le _), rfl⟩)) fun _ _ => (gn_cons mo (g_tup [.str "leaf", .int (k), .str "a", .str "a"] (by simp) (fun R h => h) (fun p H' _ hp => ⟨.tup [.str "leaf", .int (k), .str "a", .str "a"], .tup hp (.cons (.str _) (.cons (.int _) (.cons (.str _) (.cons (.str _) .nil)))), ok4 (by decide +kernel) rfl (by decide +kernel) (by decide +kernel) (Nat.zero_le _) (Nat.zero_le _) (Nat.zero_le _) (Nat.zero_le _), rfl⟩)) fun _ _ => (gn_cons mo (g_lst [.str "leaf", .int (k), .str "a"] (by simp) (fun R h => h) (fun p H' _ hp => ⟨.lst [.str "leaf", .int (k), .str "a"], .lst hp (.cons (.str _) (.cons (.int _) (.cons (.str _) .nil))), okL3 (by decide +kernel) rfl (by decide +kernel) (Nat.zero_le _) (Nat.zero_le _) (Nat.zero_le _), rfl⟩)) fun _ _ => (gn_cons mo (g_tup [.str "Leaf", .int (k), .str "a"] (by simp) (fun R h => h) (fun p H' _ hp => ⟨.tup [.str "Leaf", .int (k), .str "a"], .tup hp (.cons (.str _) (.cons (.int _) (.cons (.str _) .nil))), ok3 (by decide +kernel) rfl (by decide +kernel) (Nat.zero_le _) (Nat.zero_le _) (Nat.zero_le _), end3 (.inl (by decide +kernel))⟩)) fun _ _ => (gn_cons mo (g_tup [.str "cut", .int (7)] (by simp) (fun R h => h) (fun p H' _ hp => ⟨.tup [.str "cut", .int (7)], .tup hp (.cons (.str _) (.cons (.int _) .nil)), ok2 (by decide +kernel) rfl (Nat.zero_le _) (Nat.zero_le _), rfl⟩)) fun _ _ => (gn_cons mo (g_tup [] (by simp) (fun R h => h) (fun p H' _ hp => ⟨.tup [], .tup hp .nil, .inl ⟨rfl, by decide⟩, rfl⟩)) fun _ _ => gn_nil)))))) (by decide) fun p2 z2 G2 S2 hp2 hl2 P2 => ?_
  exact st1 p2 z2 G2 S2 hp2 hl2 P2
end Rs
namespace Rs
open PySem PySem.Spec PyProof.Rows L2
theorem low_bit (x q : Nat) : (x ^^^ 1) / 2 ^ (q + 1) = x / 2 ^ (q + 1) := by
  rw [← Nat.shiftRight_eq_div_pow, ← Nat.shiftRight_eq_div_pow, Nat.shiftRight_xor_distrib]
  have : 1 >>> (q + 1) = 0 := by rw [Nat.shiftRight_eq_div_pow]; exact Nat.div_eq_of_lt (Nat.one_lt_two_pow (by omega))
  rw [this, Nat.xor_zero]
theorem low_bitI {x : Int} {q : Nat} (x0 : 0 ≤ x) (hq : 1 ≤ q) : Builtin.bitXor x 1 / 2 ^ q = x / 2 ^ q := by
  obtain ⟨y, rfl⟩ := Int.eq_ofNat_of_zero_le x0
  obtain ⟨r, rfl⟩ : ∃ r, q = r + 1 := ⟨q - 1, by omega⟩
  have e : Builtin.bitXor (y : Int) 1 = ((y ^^^ 1 : Nat) : Int) := bitXor_nat y 1
  rw [e, ← pow2z]
  have := low_bit y r
  exact_mod_cast this
theorem xor_nn {x : Int} (x0 : 0 ≤ x) : 0 ≤ Builtin.bitXor x 1 := by
  obtain ⟨y, rfl⟩ := Int.eq_ofNat_of_zero_le x0
  have e : Builtin.bitXor (y : Int) 1 = ((y ^^^ 1 : Nat) : Int) := bitXor_nat y 1
  rw [e]; omega
theorem str60 : ∀ n : Fin 60, okD (.str (Str.ofString (toString (((n : Nat) : Int))))) = true := by decide +kernel
def BF12 (K : PySem.W.Frag) (A : Adr) : TS := mIfS (mTest (tOp (mGt) (mVar 2) (tC (.int 0)))) (tSeq (tAsg (tOp (mShl) (tC (.int 1)) (tOp (mSub) (tOp (mSub) (mVar 8) (tC (.int 1))) (tOp (mMod) (mVar 3) (mVar 2)))) (gName 11)) (tAsg (tOp (mAddG K) (mVar 5) (tLst (tCons (tTup (tCons (tC (.str "fork")) (tCons (mVar 8) (tCons (tOp (mXor) (mVar 10) (mVar 11)) (tCons (tC (.int 1)) (tCons (tC (.int 2)) (tNil))))))) (tCons (tTup (tCons (tC (.str "fork")) (tCons (mVar 8) (tCons (tOp (mXor) (mVar 10) (mVar 11)) (tCons (tC (.str "a")) (tCons (tC (.str "b")) (tNil))))))) (tNil))))) (gName 5))) (tNext)
def BF11 (K : PySem.W.Frag) (A : Adr) : TS := tSeq (tAsg (tOp (mAddG K) (mVar 5) (tLst (tCons (tTup (tCons (tC (.str "fork")) (tCons (mVar 8) (tCons (tC (.str "1")) (tCons (tC (.int 1)) (tCons (tC (.int 2)) (tNil))))))) (tCons (tTup (tCons (tC (.str "fork")) (tCons (tCB (kStr) (tCons (mVar 8) (tNil))) (tCons (mVar 10) (tCons (tC (.int 1)) (tCons (tC (.int 2)) (tNil))))))) (tCons (tTup (tCons (tC (.str "Fork")) (tCons (mVar 8) (tCons (mVar 10) (tCons (tC (.int 1)) (tCons (tC (.int 2)) (tNil))))))) (tNil)))))) (gName 5)) (BF12 K A)
def BF10 (K : PySem.W.Frag) (A : Adr) : TS := tSeq (tAsg (tOp (mAddG K) (mVar 5) (tLst (tCons (tTup (tCons (tC (.str "fork")) (tCons (mVar 8) (tCons (mVar 10) (tCons (tC .non) (tCons (tC (.int 2)) (tNil))))))) (tCons (tTup (tCons (tC (.str "fork")) (tCons (mVar 8) (tCons (mVar 10) (tCons (tC (.int 1)) (tCons (tC (.bl true)) (tNil))))))) (tCons (tTup (tCons (tC (.str "fork")) (tCons (mVar 8) (tCons (tC .non) (tCons (tC (.int 1)) (tCons (tC (.int 2)) (tNil))))))) (tNil)))))) (gName 5)) (BF11 K A)
def BF9 (K : PySem.W.Frag) (A : Adr) : TS := tSeq (tAsg (tOp (mAddG K) (mVar 5) (tLst (tCons (tTup (tCons (tC (.str "fork")) (tCons (mVar 8) (tCons (mVar 10) (tCons (tUn mNeg (tC (.int 1))) (tCons (tC (.int 2)) (tNil))))))) (tCons (tTup (tCons (tC (.str "fork")) (tCons (mVar 8) (tCons (mVar 10) (tCons (tC (.int 1)) (tCons (tOp (mPow) (tC (.int 10)) (tC (.int 60))) (tNil))))))) (tCons (tLst (tCons (tC (.str "fork")) (tCons (mVar 8) (tCons (mVar 10) (tCons (tC (.int 1)) (tCons (tC (.int 2)) (tNil))))))) (tNil)))))) (gName 5)) (BF10 K A)
def BF8 (K : PySem.W.Frag) (A : Adr) : TS := tSeq (tAsg (tOp (mAddG K) (mVar 5) (tLst (tCons (tTup (tCons (tC (.str "fork")) (tCons (mVar 8) (tCons (tOp (mAddG K) (mVar 10) (tOp (mShl) (tC (.int 1)) (mVar 8))) (tCons (tC (.int 1)) (tCons (tC (.int 2)) (tNil))))))) (tCons (tTup (tCons (tC (.str "fork")) (tCons (mVar 8) (tCons (mVar 10) (tCons (tC (.int 1)) (tCons (tC (.int 2)) (tCons (tC (.int 3)) (tNil)))))))) (tNil))))) (gName 5)) (BF9 K A)
def BF7 (K : PySem.W.Frag) (A : Adr) : TS := tSeq (tAsg (tOp (mAddG K) (mVar 5) (tLst (tCons (tTup (tCons (tC (.str "fork")) (tCons (mVar 8) (tCons (mVar 9) (tCons (tC (.int 1)) (tCons (tC (.int 2)) (tNil))))))) (tCons (tTup (tCons (tC (.str "fork")) (tCons (mVar 8) (tCons (tUn mNeg (tC (.int 1))) (tCons (tC (.int 1)) (tCons (tC (.int 2)) (tNil))))))) (tCons (tTup (tCons (tC (.str "fork")) (tCons (mVar 8) (tCons (mVar 10) (tCons (tC (.int 1)) (tNil)))))) (tNil)))))) (gName 5)) (BF8 K A)
def BF6 (K : PySem.W.Frag) (A : Adr) : TS := tSeq (tAsg (tOp (mAddG K) (mVar 5) (tLst (tCons (tTup (tCons (tC (.str "fork")) (tCons (mVar 8) (tCons (mVar 10) (tCons (tC (.int 1)) (tCons (tUn mNeg (tC (.int 1))) (tNil))))))) (tCons (tTup (tCons (tC (.str "fork")) (tCons (mVar 8) (tCons (mVar 10) (tCons (tC (.int 1)) (tCons (tC .non) (tNil))))))) (tCons (tTup (tCons (tC (.str "fork")) (tCons (mVar 8) (tCons (mVar 10) (tCons (tC (.int 1)) (tCons (tTup (tCons (tC (.int 2)) (tNil))) (tNil))))))) (tNil)))))) (gName 5)) (BF7 K A)
def BF5 (K : PySem.W.Frag) (A : Adr) : TS := tSeq (tAsg (tOp (mAddG K) (mVar 5) (tLst (tCons (tTup (tCons (tC (.str "fork")) (tCons (mVar 8) (tCons (mVar 10) (tCons (tLst (tCons (tC (.int 1)) (tNil))) (tCons (tC (.int 2)) (tNil))))))) (tNil)))) (gName 5)) (BF6 K A)
def BF4 (K : PySem.W.Frag) (A : Adr) : TS := tSeq (tAsg (tOp (mAddG K) (mVar 5) (tLst (tCons (tTup (tCons (tC (.str "fork")) (tCons (mVar 8) (tCons (mVar 10) (tCons (tOp (mPow) (tC (.int 10)) (tC (.int 60))) (tCons (tC (.int 2)) (tNil))))))) (tCons (tTup (tCons (tC (.str "fork")) (tCons (mVar 8) (tCons (mVar 10) (tCons (tC (.bl true)) (tCons (tC (.int 2)) (tNil))))))) (tNil))))) (gName 5)) (BF5 K A)
def BF3 (K : PySem.W.Frag) (A : Adr) : TS := tSeq (tAsg (tOp (mAddG K) (mVar 5) (tLst (tCons (tTup (tCons (tC (.str "fork")) (tCons (mVar 8) (tCons (tOp (mGt) (mVar 10) (tC (.int 0))) (tCons (tC (.int 1)) (tCons (tC (.int 2)) (tNil))))))) (tCons (tTup (tCons (tC (.str "fork")) (tCons (mVar 8) (tCons (mVar 6) (tCons (tC (.int 1)) (tCons (tC (.int 2)) (tNil))))))) (tCons (tTup (tCons (tC (.str "fork")) (tCons (mVar 8) (tCons (mVar 10) (tCons (mVar 6) (tCons (tC (.int 2)) (tNil))))))) (tNil)))))) (gName 5)) (BF4 K A)
def BF2 (K : PySem.W.Frag) (A : Adr) : TS := tSeq (tAsg (tOp (mXor) (mVar 9) (tC (.int 1))) (gName 10)) (BF3 K A)
def BF1 (K : PySem.W.Frag) (A : Adr) : TS := tSeq (tAsg (tOp (mShr) (mVar 1) (tOp (mSub) (mVar 0) (mVar 8))) (gName 9)) (BF2 K A)
def BF0 (K : PySem.W.Frag) (A : Adr) : TS := tSeq (tAsg (tOp (mAddG K) (tOp (mAddG K) (mVar 2) (tC (.int 1))) (tOp (mMod) (mVar 3) (tOp (mSub) (tOp (mSub) (mVar 0) (tC (.int 1))) (mVar 2)))) (gName 8)) (BF1 K A)
def BFL (K : PySem.W.Frag) (A : Adr) : TS := tAsg (tOp (mAddG K) (mVar 5) (tLst (tCons (tTup (tCons (tC (.str "fork")) (tCons (mVar 8) (tCons (tOp (mXor) (mVar 10) (mVar 11)) (tCons (tC (.int 1)) (tCons (tC (.int 2)) (tNil))))))) (tCons (tTup (tCons (tC (.str "fork")) (tCons (mVar 8) (tCons (tOp (mXor) (mVar 10) (mVar 11)) (tCons (tC (.str "a")) (tCons (tC (.str "b")) (tNil))))))) (tNil))))) (gName 5)
variable {K : PySem.W.Frag} {mg : Str → Option Value} {A : Adr}
theorem len__law_bad_forks (K : PySem.W.Frag) (A : Adr) : ∀ vs H Q E, sp__law_bad_forks K A vs H Q E → vs.length = 4 := by rintro vs H Q E ⟨b, k, l, n, rfl, _⟩; rfl
structure Cx (b k l : Int) (H : Hp) (Q : VK) : Prop where
  l0 : 0 ≤ l
  lb : l ≤ b
  b1 : 1 ≤ b
  b60 : b ≤ 60
  k0 : 0 ≤ k
  k1 : k < 2 ^ b.toNat
  q : ∀ (p : Addr) (xs : List V) (H' : Hp), Same H H' → H' p = some (.lst xs) → xs ≠ [] → BadEnds b k l H' xs → Q (.ref p) H'
variable {b k l n far e : Int} {H : Hp} {Q : VK}
theorem bfin (c : Cx b k l H Q) (σ : L2.St) {p : Addr} {zs : List V} {G : Hp} (h5 : σ[5]? = some (some (.ref p))) (S : Same H G) (hp : G p = some (.lst zs)) (hl : 1 ≤ zs.length) (P : ∀ z ∈ zs, BadEnd b k l G z) : R__law_bad_forks_8 K A { nx := fun _ H' => Q .non H', rt := Q } σ G := by
  unfold R__law_bad_forks_8 tRet mVar
  rw [h5]
  exact c.q p zs G S hp (fun z => by rw [z] at hl; simp at hl) P
theorem bf12 (c : Cx b k l H Q) (hfar : 10 ^ 60 ≤ far) (le : l < e) (eb : e < b) {p : Addr} {zs : List V} {G : Hp} (S : Same H G) (hp : G p = some (.lst zs)) (hl1 : 1 ≤ zs.length) (hl2 : zs.length ≤ 220) (P : ∀ z ∈ zs, BadEnd b k l G z) : BF12 K A { nx := R__law_bad_forks_8 K A { nx := fun _ H' => Q .non H', rt := Q }, rt := Q } [some (.int b), some (.int k), some (.int l), some (.int n), some (.int (startI b k l)), some (.ref p), some (.int far), some (.int (1 + n % 30)), some (.int e), some (.int (startI b k e)), some (.int (Builtin.bitXor (startI b k e) 1)), none] G := by
  have c' := c
  obtain ⟨l0, lb, b1, b60, k0, k1, q⟩ := c'
  have mo := BadEnd.mono b k l
  have hb60 : b.toNat ≤ 60 := by omega
  have hp60 := pow2_60 hb60
  have p60 : (60 : Int) < 10 ^ 60 := by decide +kernel
  have q60 : (2 : Int) ^ 60 < 10 ^ 60 := by decide +kernel
  have m0 : 0 ≤ n % 30 := by omega
  have o0 : 0 ≤ startI b k e := startI_nn k0
  have g0 := xor_nn o0
  have hpe := pow2_pos e.toNat
  refine Sel.dec (fun hpos => ?_) (fun _ => bfin (K := K) (A := A) c [some (.int b), some (.int k), some (.int l), some (.int n), some (.int (startI b k l)), some (.ref p), some (.int far), some (.int (1 + n % 30)), some (.int e), some (.int (startI b k e)), some (.int (Builtin.bitXor (startI b k e) 1)), none] rfl S hp hl1 P)
  have r0 := Int.emod_nonneg n (b := l) (by omega)
  have r1 := Int.emod_lt_of_pos n (b := l) hpos
  have hfl : Builtin.bitXor (Builtin.bitXor (startI b k e) 1) (1 * 2 ^ (e - 1 - n % l).toNat) / 2 ^ (e - l).toNat ≠ startI b k l := by
    have h1 := turnedI (x := Builtin.bitXor (startI b k e) 1) (p := (e - 1 - n % l).toNat) (q := (e - l).toNat) g0 (by omega)
    rw [low_bitI o0 (by omega), startI_start (by omega) (by omega)] at h1
    exact h1
  refine ⟨hpos, ⟨by omega, by omega, by decide⟩, ?_⟩
  show BFL K A _ [some (.int b), some (.int k), some (.int l), some (.int n), some (.int (startI b k l)), some (.ref p), some (.int far), some (.int (1 + n % 30)), some (.int e), some (.int (startI b k e)), some (.int (Builtin.bitXor (startI b k e) 1)), some (.int (1 * 2 ^ (e - 1 - n % l).toNat))] G
  unfold BFL tAsg
  refine more_all (i := 5) mo rfl hp rfl P (gn_cons mo (g_tup [.str "fork", .int (e), .int (Builtin.bitXor (Builtin.bitXor (startI b k e) 1) (1 * 2 ^ (e - 1 - n % l).toNat)), .int (1), .int (2)] (by simp) (fun R h => h) (fun p H' _ hp => ⟨.tup [.str "fork", .int (e), .int (Builtin.bitXor (Builtin.bitXor (startI b k e) 1) (1 * 2 ^ (e - 1 - n % l).toNat)), .int (1), .int (2)], .tup hp (.cons (.str _) (.cons (.int _) (.cons (.int _) (.cons (.int _) (.cons (.int _) .nil))))), ok5 (by decide +kernel) rfl rfl rfl rfl (Nat.zero_le _) (Nat.zero_le _) (Nat.zero_le _) (Nat.zero_le _) (Nat.zero_le _), end5 (.inr (.inr (.inr (.inl (hfl)))))⟩)) fun _ _ => (gn_cons mo (g_tup [.str "fork", .int (e), .int (Builtin.bitXor (Builtin.bitXor (startI b k e) 1) (1 * 2 ^ (e - 1 - n % l).toNat)), .str "a", .str "b"] (by simp) (fun R h => h) (fun p H' _ hp => ⟨.tup [.str "fork", .int (e), .int (Builtin.bitXor (Builtin.bitXor (startI b k e) 1) (1 * 2 ^ (e - 1 - n % l).toNat)), .str "a", .str "b"], .tup hp (.cons (.str _) (.cons (.int _) (.cons (.int _) (.cons (.str _) (.cons (.str _) .nil))))), ok5 (by decide +kernel) rfl rfl (by decide +kernel) (by decide +kernel) (Nat.zero_le _) (Nat.zero_le _) (Nat.zero_le _) (Nat.zero_le _) (Nat.zero_le _), end5 (.inr (.inr (.inr (.inl (hfl)))))⟩)) fun _ _ => gn_nil)) (by omega) fun p2 z2 G2 S2 hp2 hl2 P2 => ?_
  exact bfin (K := K) (A := A) c (σ := [some (.int b), some (.int k), some (.int l), some (.int n), some (.int (startI b k l)), some (.ref p2), some (.int far), some (.int (1 + n % 30)), some (.int e), some (.int (startI b k e)), some (.int (Builtin.bitXor (startI b k e) 1)), some (.int (1 * 2 ^ (e - 1 - n % l).toNat))]) rfl (S.trans S2) hp2 (by omega) P2
theorem bf11 (c : Cx b k l H Q) (hfar : 10 ^ 60 ≤ far) (le : l < e) (eb : e < b) {p : Addr} {zs : List V} {G : Hp} (S : Same H G) (hp : G p = some (.lst zs)) (hl1 : 1 ≤ zs.length) (hl2 : zs.length ≤ 100 + 110) (P : ∀ z ∈ zs, BadEnd b k l G z) : BF11 K A { nx := R__law_bad_forks_8 K A { nx := fun _ H' => Q .non H', rt := Q }, rt := Q } [some (.int b), some (.int k), some (.int l), some (.int n), some (.int (startI b k l)), some (.ref p), some (.int far), some (.int (1 + n % 30)), some (.int e), some (.int (startI b k e)), some (.int (Builtin.bitXor (startI b k e) 1)), none] G := by
  have c' := c
  obtain ⟨l0, lb, b1, b60, k0, k1, q⟩ := c'
  have mo := BadEnd.mono b k l
  have hb60 : b.toNat ≤ 60 := by omega
  have hp60 := pow2_60 hb60
  have p60 : (60 : Int) < 10 ^ 60 := by decide +kernel
  have q60 : (2 : Int) ^ 60 < 10 ^ 60 := by decide +kernel
  have m0 : 0 ≤ n % 30 := by omega
  have o0 : 0 ≤ startI b k e := startI_nn k0
  have g0 := xor_nn o0
  have hpe := pow2_pos e.toNat
  have hse : okD (.str (toString e)) = true := by
    obtain ⟨y, rfl⟩ := Int.eq_ofNat_of_zero_le (by omega : 0 ≤ e)
    exact str60 ⟨y, by omega⟩
  have hlog : e.natAbs.log2 < 1920 := Nat.lt_of_le_of_lt (Nat.log2_le_self _) (by omega)
  unfold BF11 tSeq tAsg
  refine more_all mo rfl hp rfl P (gn_cons mo (g_tup [.str "fork", .int (e), .str "1", .int (1), .int (2)] (by simp) (fun R h => h) (fun p H' _ hp => ⟨.tup [.str "fork", .int (e), .str "1", .int (1), .int (2)], .tup hp (.cons (.str _) (.cons (.int _) (.cons (.str _) (.cons (.int _) (.cons (.int _) .nil))))), ok5 (by decide +kernel) rfl (by decide +kernel) rfl rfl (Nat.zero_le _) (Nat.zero_le _) (Nat.zero_le _) (Nat.zero_le _) (Nat.zero_le _), rfl⟩)) fun _ _ => (gn_cons mo (g_tup [.str "fork", .str (toString e), .int (Builtin.bitXor (startI b k e) 1), .int (1), .int (2)] (by simp) (fun R h => ⟨hlog, h⟩) (fun p H' _ hp => ⟨.tup [.str "fork", .str (toString e), .int (Builtin.bitXor (startI b k e) 1), .int (1), .int (2)], .tup hp (.cons (.str _) (.cons (.str _) (.cons (.int _) (.cons (.int _) (.cons (.int _) .nil))))), ok5 (by decide +kernel) hse rfl rfl rfl (Nat.zero_le _) (Nat.zero_le _) (Nat.zero_le _) (Nat.zero_le _) (Nat.zero_le _), rfl⟩)) fun _ _ => (gn_cons mo (g_tup [.str "Fork", .int (e), .int (Builtin.bitXor (startI b k e) 1), .int (1), .int (2)] (by simp) (fun R h => h) (fun p H' _ hp => ⟨.tup [.str "Fork", .int (e), .int (Builtin.bitXor (startI b k e) 1), .int (1), .int (2)], .tup hp (.cons (.str _) (.cons (.int _) (.cons (.int _) (.cons (.int _) (.cons (.int _) .nil))))), ok5 (by decide +kernel) rfl rfl rfl rfl (Nat.zero_le _) (Nat.zero_le _) (Nat.zero_le _) (Nat.zero_le _) (Nat.zero_le _), end5 (.inl (by decide +kernel))⟩)) fun _ _ => gn_nil))) (by omega) fun p2 z2 G2 S2 hp2 hl2 P2 => ?_
  exact bf12 c hfar le eb (p := p2) (S.trans S2) hp2 (by omega) (by omega) P2
theorem bf10 (c : Cx b k l H Q) (hfar : 10 ^ 60 ≤ far) (le : l < e) (eb : e < b) {p : Addr} {zs : List V} {G : Hp} (S : Same H G) (hp : G p = some (.lst zs)) (hl1 : 1 ≤ zs.length) (hl2 : zs.length ≤ 100 + 100) (P : ∀ z ∈ zs, BadEnd b k l G z) : BF10 K A { nx := R__law_bad_forks_8 K A { nx := fun _ H' => Q .non H', rt := Q }, rt := Q } [some (.int b), some (.int k), some (.int l), some (.int n), some (.int (startI b k l)), some (.ref p), some (.int far), some (.int (1 + n % 30)), some (.int e), some (.int (startI b k e)), some (.int (Builtin.bitXor (startI b k e) 1)), none] G := by
  have c' := c
  obtain ⟨l0, lb, b1, b60, k0, k1, q⟩ := c'
  have mo := BadEnd.mono b k l
  have hb60 : b.toNat ≤ 60 := by omega
  have hp60 := pow2_60 hb60
  have p60 : (60 : Int) < 10 ^ 60 := by decide +kernel
  have q60 : (2 : Int) ^ 60 < 10 ^ 60 := by decide +kernel
  have m0 : 0 ≤ n % 30 := by omega
  have o0 : 0 ≤ startI b k e := startI_nn k0
  have g0 := xor_nn o0
  have hpe := pow2_pos e.toNat
  unfold BF10 tSeq tAsg
  refine more_all mo rfl hp rfl P (gn_cons mo (g_tup [.str "fork", .int (e), .int (Builtin.bitXor (startI b k e) 1), .non, .int (2)] (by simp) (fun R h => h) (fun p H' _ hp => ⟨.tup [.str "fork", .int (e), .int (Builtin.bitXor (startI b k e) 1), .non, .int (2)], .tup hp (.cons (.str _) (.cons (.int _) (.cons (.int _) (.cons .non (.cons (.int _) .nil))))), ok5 (by decide +kernel) rfl rfl rfl rfl (Nat.zero_le _) (Nat.zero_le _) (Nat.zero_le _) (Nat.zero_le _) (Nat.zero_le _), end5 (.inr (.inr (.inr (.inr (.inr (.inl (rfl)))))))⟩)) fun _ _ => (gn_cons mo (g_tup [.str "fork", .int (e), .int (Builtin.bitXor (startI b k e) 1), .int (1), .bl (true)] (by simp) (fun R h => h) (fun p H' _ hp => ⟨.tup [.str "fork", .int (e), .int (Builtin.bitXor (startI b k e) 1), .int (1), .bl (true)], .tup hp (.cons (.str _) (.cons (.int _) (.cons (.int _) (.cons (.int _) (.cons (.bl _) .nil))))), ok5 (by decide +kernel) rfl rfl rfl rfl (Nat.zero_le _) (Nat.zero_le _) (Nat.zero_le _) (Nat.zero_le _) (Nat.zero_le _), end5 (.inr (.inr (.inr (.inr (.inr (.inr (rfl)))))))⟩)) fun _ _ => (gn_cons mo (g_tup [.str "fork", .int (e), .non, .int (1), .int (2)] (by simp) (fun R h => h) (fun p H' _ hp => ⟨.tup [.str "fork", .int (e), .non, .int (1), .int (2)], .tup hp (.cons (.str _) (.cons (.int _) (.cons .non (.cons (.int _) (.cons (.int _) .nil))))), ok5 (by decide +kernel) rfl rfl rfl rfl (Nat.zero_le _) (Nat.zero_le _) (Nat.zero_le _) (Nat.zero_le _) (Nat.zero_le _), rfl⟩)) fun _ _ => gn_nil))) (by omega) fun p2 z2 G2 S2 hp2 hl2 P2 => ?_
  exact bf11 c hfar le eb (p := p2) (S.trans S2) hp2 (by omega) (by omega) P2
theorem bf9 (c : Cx b k l H Q) (hfar : 10 ^ 60 ≤ far) (le : l < e) (eb : e < b) {p : Addr} {zs : List V} {G : Hp} (S : Same H G) (hp : G p = some (.lst zs)) (hl1 : 1 ≤ zs.length) (hl2 : zs.length ≤ 100 + 90) (P : ∀ z ∈ zs, BadEnd b k l G z) : BF9 K A { nx := R__law_bad_forks_8 K A { nx := fun _ H' => Q .non H', rt := Q }, rt := Q } [some (.int b), some (.int k), some (.int l), some (.int n), some (.int (startI b k l)), some (.ref p), some (.int far), some (.int (1 + n % 30)), some (.int e), some (.int (startI b k e)), some (.int (Builtin.bitXor (startI b k e) 1)), none] G := by
  have c' := c
  obtain ⟨l0, lb, b1, b60, k0, k1, q⟩ := c'
  have mo := BadEnd.mono b k l
  have hb60 : b.toNat ≤ 60 := by omega
  have hp60 := pow2_60 hb60
  have p60 : (60 : Int) < 10 ^ 60 := by decide +kernel
  have q60 : (2 : Int) ^ 60 < 10 ^ 60 := by decide +kernel
  have m0 : 0 ≤ n % 30 := by omega
  have o0 : 0 ≤ startI b k e := startI_nn k0
  have g0 := xor_nn o0
  have hpe := pow2_pos e.toNat
  unfold BF9 tSeq tAsg
  refine more_all mo rfl hp rfl P (gn_cons mo (g_tup [.str "fork", .int (e), .int (Builtin.bitXor (startI b k e) 1), .int (-1), .int (2)] (by simp) (fun R h => h) (fun p H' _ hp => ⟨.tup [.str "fork", .int (e), .int (Builtin.bitXor (startI b k e) 1), .int (-1), .int (2)], .tup hp (.cons (.str _) (.cons (.int _) (.cons (.int _) (.cons (.int _) (.cons (.int _) .nil))))), ok5 (by decide +kernel) rfl rfl rfl rfl (Nat.zero_le _) (Nat.zero_le _) (Nat.zero_le _) (Nat.zero_le _) (Nat.zero_le _), end5 (.inr (.inr (.inr (.inr (.inr (.inl (no_stamp (.inl (by decide)))))))))⟩)) fun _ _ => (gn_cons mo (g_tup [.str "fork", .int (e), .int (Builtin.bitXor (startI b k e) 1), .int (1), .int (10 ^ (60 : Int).toNat)] (by simp) (fun R h => ⟨⟨by decide, by decide, by decide⟩, h⟩) (fun p H' _ hp => ⟨.tup [.str "fork", .int (e), .int (Builtin.bitXor (startI b k e) 1), .int (1), .int (10 ^ (60 : Int).toNat)], .tup hp (.cons (.str _) (.cons (.int _) (.cons (.int _) (.cons (.int _) (.cons (.int _) .nil))))), ok5 (by decide +kernel) rfl rfl rfl rfl (Nat.zero_le _) (Nat.zero_le _) (Nat.zero_le _) (Nat.zero_le _) (Nat.zero_le _), end5 (.inr (.inr (.inr (.inr (.inr (.inr (no_stamp (.inr (Int.le_refl _)))))))))⟩)) fun _ _ => (gn_cons mo (g_lst [.str "fork", .int (e), .int (Builtin.bitXor (startI b k e) 1), .int (1), .int (2)] (by simp) (fun R h => h) (fun p H' _ hp => ⟨.lst [.str "fork", .int (e), .int (Builtin.bitXor (startI b k e) 1), .int (1), .int (2)], .lst hp (.cons (.str _) (.cons (.int _) (.cons (.int _) (.cons (.int _) (.cons (.int _) .nil))))), okL5 (by decide +kernel) rfl rfl rfl rfl (Nat.zero_le _) (Nat.zero_le _) (Nat.zero_le _) (Nat.zero_le _) (Nat.zero_le _), rfl⟩)) fun _ _ => gn_nil))) (by omega) fun p2 z2 G2 S2 hp2 hl2 P2 => ?_
  exact bf10 c hfar le eb (p := p2) (S.trans S2) hp2 (by omega) (by omega) P2
theorem bf8 (c : Cx b k l H Q) (hfar : 10 ^ 60 ≤ far) (le : l < e) (eb : e < b) {p : Addr} {zs : List V} {G : Hp} (S : Same H G) (hp : G p = some (.lst zs)) (hl1 : 1 ≤ zs.length) (hl2 : zs.length ≤ 100 + 80) (P : ∀ z ∈ zs, BadEnd b k l G z) : BF8 K A { nx := R__law_bad_forks_8 K A { nx := fun _ H' => Q .non H', rt := Q }, rt := Q } [some (.int b), some (.int k), some (.int l), some (.int n), some (.int (startI b k l)), some (.ref p), some (.int far), some (.int (1 + n % 30)), some (.int e), some (.int (startI b k e)), some (.int (Builtin.bitXor (startI b k e) 1)), none] G := by
  have c' := c
  obtain ⟨l0, lb, b1, b60, k0, k1, q⟩ := c'
  have mo := BadEnd.mono b k l
  have hb60 : b.toNat ≤ 60 := by omega
  have hp60 := pow2_60 hb60
  have p60 : (60 : Int) < 10 ^ 60 := by decide +kernel
  have q60 : (2 : Int) ^ 60 < 10 ^ 60 := by decide +kernel
  have m0 : 0 ≤ n % 30 := by omega
  have o0 : 0 ≤ startI b k e := startI_nn k0
  have g0 := xor_nn o0
  have hpe := pow2_pos e.toNat
  unfold BF8 tSeq tAsg
  refine more_all mo rfl hp rfl P (gn_cons mo (g_tup [.str "fork", .int (e), .int (Builtin.bitXor (startI b k e) 1 + 1 * 2 ^ e.toNat), .int (1), .int (2)] (by simp) (fun R h => ⟨⟨by omega, by omega, by decide⟩, h⟩) (fun p H' _ hp => ⟨.tup [.str "fork", .int (e), .int (Builtin.bitXor (startI b k e) 1 + 1 * 2 ^ e.toNat), .int (1), .int (2)], .tup hp (.cons (.str _) (.cons (.int _) (.cons (.int _) (.cons (.int _) (.cons (.int _) .nil))))), ok5 (by decide +kernel) rfl rfl rfl rfl (Nat.zero_le _) (Nat.zero_le _) (Nat.zero_le _) (Nat.zero_le _) (Nat.zero_le _), end5 (.inr (.inr (.inl (.inr (by omega)))))⟩)) fun _ _ => (gn_cons mo (g_tup [.str "fork", .int (e), .int (Builtin.bitXor (startI b k e) 1), .int (1), .int (2), .int (3)] (by simp) (fun R h => h) (fun p H' _ hp => ⟨.tup [.str "fork", .int (e), .int (Builtin.bitXor (startI b k e) 1), .int (1), .int (2), .int (3)], .tup hp (.cons (.str _) (.cons (.int _) (.cons (.int _) (.cons (.int _) (.cons (.int _) (.cons (.int _) .nil)))))), ok6 (by decide +kernel) rfl rfl rfl rfl rfl (Nat.zero_le _) (Nat.zero_le _) (Nat.zero_le _) (Nat.zero_le _) (Nat.zero_le _) (Nat.zero_le _), rfl⟩)) fun _ _ => gn_nil)) (by omega) fun p2 z2 G2 S2 hp2 hl2 P2 => ?_
  exact bf9 c hfar le eb (p := p2) (S.trans S2) hp2 (by omega) (by omega) P2
theorem bf7 (c : Cx b k l H Q) (hfar : 10 ^ 60 ≤ far) (le : l < e) (eb : e < b) {p : Addr} {zs : List V} {G : Hp} (S : Same H G) (hp : G p = some (.lst zs)) (hl1 : 1 ≤ zs.length) (hl2 : zs.length ≤ 100 + 70) (P : ∀ z ∈ zs, BadEnd b k l G z) : BF7 K A { nx := R__law_bad_forks_8 K A { nx := fun _ H' => Q .non H', rt := Q }, rt := Q } [some (.int b), some (.int k), some (.int l), some (.int n), some (.int (startI b k l)), some (.ref p), some (.int far), some (.int (1 + n % 30)), some (.int e), some (.int (startI b k e)), some (.int (Builtin.bitXor (startI b k e) 1)), none] G := by
  have c' := c
  obtain ⟨l0, lb, b1, b60, k0, k1, q⟩ := c'
  have mo := BadEnd.mono b k l
  have hb60 : b.toNat ≤ 60 := by omega
  have hp60 := pow2_60 hb60
  have p60 : (60 : Int) < 10 ^ 60 := by decide +kernel
  have q60 : (2 : Int) ^ 60 < 10 ^ 60 := by decide +kernel
  have m0 : 0 ≤ n % 30 := by omega
  have o0 : 0 ≤ startI b k e := startI_nn k0
  have g0 := xor_nn o0
  have hpe := pow2_pos e.toNat
  unfold BF7 tSeq tAsg
  refine more_all mo rfl hp rfl P (gn_cons mo (g_tup [.str "fork", .int (e), .int (startI b k e), .int (1), .int (2)] (by simp) (fun R h => h) (fun p H' _ hp => ⟨.tup [.str "fork", .int (e), .int (startI b k e), .int (1), .int (2)], .tup hp (.cons (.str _) (.cons (.int _) (.cons (.int _) (.cons (.int _) (.cons (.int _) .nil))))), ok5 (by decide +kernel) rfl rfl rfl rfl (Nat.zero_le _) (Nat.zero_le _) (Nat.zero_le _) (Nat.zero_le _) (Nat.zero_le _), end5 (.inr (.inr (.inr (.inr (.inl (rfl))))))⟩)) fun _ _ => (gn_cons mo (g_tup [.str "fork", .int (e), .int (-1), .int (1), .int (2)] (by simp) (fun R h => h) (fun p H' _ hp => ⟨.tup [.str "fork", .int (e), .int (-1), .int (1), .int (2)], .tup hp (.cons (.str _) (.cons (.int _) (.cons (.int _) (.cons (.int _) (.cons (.int _) .nil))))), ok5 (by decide +kernel) rfl rfl rfl rfl (Nat.zero_le _) (Nat.zero_le _) (Nat.zero_le _) (Nat.zero_le _) (Nat.zero_le _), end5 (.inr (.inr (.inl (.inl (by decide)))))⟩)) fun _ _ => (gn_cons mo (g_tup [.str "fork", .int (e), .int (Builtin.bitXor (startI b k e) 1), .int (1)] (by simp) (fun R h => h) (fun p H' _ hp => ⟨.tup [.str "fork", .int (e), .int (Builtin.bitXor (startI b k e) 1), .int (1)], .tup hp (.cons (.str _) (.cons (.int _) (.cons (.int _) (.cons (.int _) .nil)))), ok4 (by decide +kernel) rfl rfl rfl (Nat.zero_le _) (Nat.zero_le _) (Nat.zero_le _) (Nat.zero_le _), rfl⟩)) fun _ _ => gn_nil))) (by omega) fun p2 z2 G2 S2 hp2 hl2 P2 => ?_
  exact bf8 c hfar le eb (p := p2) (S.trans S2) hp2 (by omega) (by omega) P2
theorem bf6 (c : Cx b k l H Q) (hfar : 10 ^ 60 ≤ far) (le : l < e) (eb : e < b) {p : Addr} {zs : List V} {G : Hp} (S : Same H G) (hp : G p = some (.lst zs)) (hl1 : 1 ≤ zs.length) (hl2 : zs.length ≤ 100 + 60) (P : ∀ z ∈ zs, BadEnd b k l G z) : BF6 K A { nx := R__law_bad_forks_8 K A { nx := fun _ H' => Q .non H', rt := Q }, rt := Q } [some (.int b), some (.int k), some (.int l), some (.int n), some (.int (startI b k l)), some (.ref p), some (.int far), some (.int (1 + n % 30)), some (.int e), some (.int (startI b k e)), some (.int (Builtin.bitXor (startI b k e) 1)), none] G := by
  have c' := c
  obtain ⟨l0, lb, b1, b60, k0, k1, q⟩ := c'
  have mo := BadEnd.mono b k l
  have hb60 : b.toNat ≤ 60 := by omega
  have hp60 := pow2_60 hb60
  have p60 : (60 : Int) < 10 ^ 60 := by decide +kernel
  have q60 : (2 : Int) ^ 60 < 10 ^ 60 := by decide +kernel
  have m0 : 0 ≤ n % 30 := by omega
  have o0 : 0 ≤ startI b k e := startI_nn k0
  have g0 := xor_nn o0
  have hpe := pow2_pos e.toNat
  unfold BF6 tSeq tAsg
  refine more_all mo rfl hp rfl P (gn_cons mo (g_tup [.str "fork", .int (e), .int (Builtin.bitXor (startI b k e) 1), .int (1), .int (-1)] (by simp) (fun R h => h) (fun p H' _ hp => ⟨.tup [.str "fork", .int (e), .int (Builtin.bitXor (startI b k e) 1), .int (1), .int (-1)], .tup hp (.cons (.str _) (.cons (.int _) (.cons (.int _) (.cons (.int _) (.cons (.int _) .nil))))), ok5 (by decide +kernel) rfl rfl rfl rfl (Nat.zero_le _) (Nat.zero_le _) (Nat.zero_le _) (Nat.zero_le _) (Nat.zero_le _), end5 (.inr (.inr (.inr (.inr (.inr (.inr (no_stamp (.inl (by decide)))))))))⟩)) fun _ _ => (gn_cons mo (g_tup [.str "fork", .int (e), .int (Builtin.bitXor (startI b k e) 1), .int (1), .non] (by simp) (fun R h => h) (fun p H' _ hp => ⟨.tup [.str "fork", .int (e), .int (Builtin.bitXor (startI b k e) 1), .int (1), .non], .tup hp (.cons (.str _) (.cons (.int _) (.cons (.int _) (.cons (.int _) (.cons .non .nil))))), ok5 (by decide +kernel) rfl rfl rfl rfl (Nat.zero_le _) (Nat.zero_le _) (Nat.zero_le _) (Nat.zero_le _) (Nat.zero_le _), end5 (.inr (.inr (.inr (.inr (.inr (.inr (rfl)))))))⟩)) fun _ _ => (gn_cons mo (fun R h => ⟨line_ge (n := 1) (by decide), fun l' hl => ⟨line_ge (n := 5) (by decide), fun p hp => h _ _ ((Same.upd hl).trans (Same.upd hp)) ⟨.tup [.str "fork", .int e, .int (Builtin.bitXor (startI b k e) 1), .int 1, .tup [.int 2]], .tup upd_same (.cons (.str _) (.cons (.int _) (.cons (.int _) (.cons (.int _) (.cons (.tup (Same.upd hp _ _ upd_same) (.cons (.int _) .nil)) .nil))))), ok5 (by decide +kernel) rfl rfl rfl rfl (Nat.zero_le _) (Nat.zero_le _) (Nat.zero_le _) (Nat.zero_le _) (by show max 0 0 + 1 ≤ 101; decide), end5 (.inr (.inr (.inr (.inr (.inr (.inr (rfl)))))))⟩⟩⟩) fun _ _ => gn_nil))) (by omega) fun p2 z2 G2 S2 hp2 hl2 P2 => ?_
  exact bf7 c hfar le eb (p := p2) (S.trans S2) hp2 (by omega) (by omega) P2
theorem bf5 (c : Cx b k l H Q) (hfar : 10 ^ 60 ≤ far) (le : l < e) (eb : e < b) {p : Addr} {zs : List V} {G : Hp} (S : Same H G) (hp : G p = some (.lst zs)) (hl1 : 1 ≤ zs.length) (hl2 : zs.length ≤ 100 + 50) (P : ∀ z ∈ zs, BadEnd b k l G z) : BF5 K A { nx := R__law_bad_forks_8 K A { nx := fun _ H' => Q .non H', rt := Q }, rt := Q } [some (.int b), some (.int k), some (.int l), some (.int n), some (.int (startI b k l)), some (.ref p), some (.int far), some (.int (1 + n % 30)), some (.int e), some (.int (startI b k e)), some (.int (Builtin.bitXor (startI b k e) 1)), none] G := by
  have c' := c
  obtain ⟨l0, lb, b1, b60, k0, k1, q⟩ := c'
  have mo := BadEnd.mono b k l
  have hb60 : b.toNat ≤ 60 := by omega
  have hp60 := pow2_60 hb60
  have p60 : (60 : Int) < 10 ^ 60 := by decide +kernel
  have q60 : (2 : Int) ^ 60 < 10 ^ 60 := by decide +kernel
  have m0 : 0 ≤ n % 30 := by omega
  have o0 : 0 ≤ startI b k e := startI_nn k0
  have g0 := xor_nn o0
  have hpe := pow2_pos e.toNat
  unfold BF5 tSeq tAsg
  refine more_all mo rfl hp rfl P (gn_cons mo (fun R h => ⟨line_ge (n := 1) (by decide), fun l' hl => ⟨line_ge (n := 5) (by decide), fun p hp => h _ _ ((Same.upd hl).trans (Same.upd hp)) ⟨.tup [.str "fork", .int e, .int (Builtin.bitXor (startI b k e) 1), .lst [.int 1], .int 2], .tup upd_same (.cons (.str _) (.cons (.int _) (.cons (.int _) (.cons (.lst (Same.upd hp _ _ upd_same) (.cons (.int _) .nil)) (.cons (.int _) .nil))))), ok5 (by decide +kernel) rfl rfl rfl rfl (Nat.zero_le _) (Nat.zero_le _) (Nat.zero_le _) (by show max 0 0 + 1 ≤ 101; decide) (Nat.zero_le _), end5 (.inr (.inr (.inr (.inr (.inr (.inl (rfl)))))))⟩⟩⟩) fun _ _ => gn_nil) (by omega) fun p2 z2 G2 S2 hp2 hl2 P2 => ?_
  exact bf6 c hfar le eb (p := p2) (S.trans S2) hp2 (by omega) (by omega) P2
theorem bf4 (c : Cx b k l H Q) (hfar : 10 ^ 60 ≤ far) (le : l < e) (eb : e < b) {p : Addr} {zs : List V} {G : Hp} (S : Same H G) (hp : G p = some (.lst zs)) (hl1 : 1 ≤ zs.length) (hl2 : zs.length ≤ 100 + 40) (P : ∀ z ∈ zs, BadEnd b k l G z) : BF4 K A { nx := R__law_bad_forks_8 K A { nx := fun _ H' => Q .non H', rt := Q }, rt := Q } [some (.int b), some (.int k), some (.int l), some (.int n), some (.int (startI b k l)), some (.ref p), some (.int far), some (.int (1 + n % 30)), some (.int e), some (.int (startI b k e)), some (.int (Builtin.bitXor (startI b k e) 1)), none] G := by
  have c' := c
  obtain ⟨l0, lb, b1, b60, k0, k1, q⟩ := c'
  have mo := BadEnd.mono b k l
  have hb60 : b.toNat ≤ 60 := by omega
  have hp60 := pow2_60 hb60
  have p60 : (60 : Int) < 10 ^ 60 := by decide +kernel
  have q60 : (2 : Int) ^ 60 < 10 ^ 60 := by decide +kernel
  have m0 : 0 ≤ n % 30 := by omega
  have o0 : 0 ≤ startI b k e := startI_nn k0
  have g0 := xor_nn o0
  have hpe := pow2_pos e.toNat
  unfold BF4 tSeq tAsg
  refine more_all mo rfl hp rfl P (gn_cons mo (g_tup [.str "fork", .int (e), .int (Builtin.bitXor (startI b k e) 1), .int (10 ^ (60 : Int).toNat), .int (2)] (by simp) (fun R h => ⟨⟨by decide, by decide, by decide⟩, h⟩) (fun p H' _ hp => ⟨.tup [.str "fork", .int (e), .int (Builtin.bitXor (startI b k e) 1), .int (10 ^ (60 : Int).toNat), .int (2)], .tup hp (.cons (.str _) (.cons (.int _) (.cons (.int _) (.cons (.int _) (.cons (.int _) .nil))))), ok5 (by decide +kernel) rfl rfl rfl rfl (Nat.zero_le _) (Nat.zero_le _) (Nat.zero_le _) (Nat.zero_le _) (Nat.zero_le _), end5 (.inr (.inr (.inr (.inr (.inr (.inl (no_stamp (.inr (Int.le_refl _)))))))))⟩)) fun _ _ => (gn_cons mo (g_tup [.str "fork", .int (e), .int (Builtin.bitXor (startI b k e) 1), .bl (true), .int (2)] (by simp) (fun R h => h) (fun p H' _ hp => ⟨.tup [.str "fork", .int (e), .int (Builtin.bitXor (startI b k e) 1), .bl (true), .int (2)], .tup hp (.cons (.str _) (.cons (.int _) (.cons (.int _) (.cons (.bl _) (.cons (.int _) .nil))))), ok5 (by decide +kernel) rfl rfl rfl rfl (Nat.zero_le _) (Nat.zero_le _) (Nat.zero_le _) (Nat.zero_le _) (Nat.zero_le _), end5 (.inr (.inr (.inr (.inr (.inr (.inl (rfl)))))))⟩)) fun _ _ => gn_nil)) (by omega) fun p2 z2 G2 S2 hp2 hl2 P2 => ?_
  exact bf5 c hfar le eb (p := p2) (S.trans S2) hp2 (by omega) (by omega) P2
theorem bf3 (c : Cx b k l H Q) (hfar : 10 ^ 60 ≤ far) (le : l < e) (eb : e < b) {p : Addr} {zs : List V} {G : Hp} (S : Same H G) (hp : G p = some (.lst zs)) (hl1 : 1 ≤ zs.length) (hl2 : zs.length ≤ 100 + 30) (P : ∀ z ∈ zs, BadEnd b k l G z) : BF3 K A { nx := R__law_bad_forks_8 K A { nx := fun _ H' => Q .non H', rt := Q }, rt := Q } [some (.int b), some (.int k), some (.int l), some (.int n), some (.int (startI b k l)), some (.ref p), some (.int far), some (.int (1 + n % 30)), some (.int e), some (.int (startI b k e)), some (.int (Builtin.bitXor (startI b k e) 1)), none] G := by
  have c' := c
  obtain ⟨l0, lb, b1, b60, k0, k1, q⟩ := c'
  have mo := BadEnd.mono b k l
  have hb60 : b.toNat ≤ 60 := by omega
  have hp60 := pow2_60 hb60
  have p60 : (60 : Int) < 10 ^ 60 := by decide +kernel
  have q60 : (2 : Int) ^ 60 < 10 ^ 60 := by decide +kernel
  have m0 : 0 ≤ n % 30 := by omega
  have o0 : 0 ≤ startI b k e := startI_nn k0
  have g0 := xor_nn o0
  have hpe := pow2_pos e.toNat
  have h2far : (2 : Int) ^ e.toNat ≤ far := by have := pow2_60 (k := e.toNat) (by omega); omega
  unfold BF3 tSeq tAsg
  refine more_all mo rfl hp rfl P (gn_cons mo (g_tup [.str "fork", .int (e), .bl (decide (0 < Builtin.bitXor (startI b k e) 1)), .int (1), .int (2)] (by simp) (fun R h => h) (fun p H' _ hp => ⟨.tup [.str "fork", .int (e), .bl (decide (0 < Builtin.bitXor (startI b k e) 1)), .int (1), .int (2)], .tup hp (.cons (.str _) (.cons (.int _) (.cons (.bl _) (.cons (.int _) (.cons (.int _) .nil))))), ok5 (by decide +kernel) rfl rfl rfl rfl (Nat.zero_le _) (Nat.zero_le _) (Nat.zero_le _) (Nat.zero_le _) (Nat.zero_le _), rfl⟩)) fun _ _ => (gn_cons mo (g_tup [.str "fork", .int (e), .int (far), .int (1), .int (2)] (by simp) (fun R h => h) (fun p H' _ hp => ⟨.tup [.str "fork", .int (e), .int (far), .int (1), .int (2)], .tup hp (.cons (.str _) (.cons (.int _) (.cons (.int _) (.cons (.int _) (.cons (.int _) .nil))))), ok5 (by decide +kernel) rfl rfl rfl rfl (Nat.zero_le _) (Nat.zero_le _) (Nat.zero_le _) (Nat.zero_le _) (Nat.zero_le _), end5 (.inr (.inr (.inl (.inr h2far))))⟩)) fun _ _ => (gn_cons mo (g_tup [.str "fork", .int (e), .int (Builtin.bitXor (startI b k e) 1), .int (far), .int (2)] (by simp) (fun R h => h) (fun p H' _ hp => ⟨.tup [.str "fork", .int (e), .int (Builtin.bitXor (startI b k e) 1), .int (far), .int (2)], .tup hp (.cons (.str _) (.cons (.int _) (.cons (.int _) (.cons (.int _) (.cons (.int _) .nil))))), ok5 (by decide +kernel) rfl rfl rfl rfl (Nat.zero_le _) (Nat.zero_le _) (Nat.zero_le _) (Nat.zero_le _) (Nat.zero_le _), end5 (.inr (.inr (.inr (.inr (.inr (.inl (no_stamp (.inr hfar))))))))⟩)) fun _ _ => gn_nil))) (by omega) fun p2 z2 G2 S2 hp2 hl2 P2 => ?_
  exact bf4 c hfar le eb (p := p2) (S.trans S2) hp2 (by omega) (by omega) P2
theorem bf2_step {x dd : Int} {p : Addr} {G : Hp} (h : BF3 K A { nx := R__law_bad_forks_8 K A { nx := fun _ H' => Q .non H', rt := Q }, rt := Q } [some (.int b), some (.int k), some (.int l), some (.int n), some (.int (startI b k l)), some (.ref p), some (.int far), some (.int (1 + n % 30)), some (.int dd), some (.int x), some (.int (Builtin.bitXor x 1)), none] G) : BF2 K A { nx := R__law_bad_forks_8 K A { nx := fun _ H' => Q .non H', rt := Q }, rt := Q } [some (.int b), some (.int k), some (.int l), some (.int n), some (.int (startI b k l)), some (.ref p), some (.int far), some (.int (1 + n % 30)), some (.int dd), some (.int x), none, none] G := by
  unfold BF2 tSeq tAsg tOp mVar tC mXor gName
  exact h
theorem T7_eq (K : PySem.W.Frag) (A : Adr) : R__law_bad_forks_7 K A = tSeq (mIfS (mTest (tOp (mLt) (tOp (mAddG K) (mVar 2) (tC (.int 1))) (mVar 0))) (BF0 K A) tNext) (R__law_bad_forks_8 K A) := rfl
theorem st7 (c : Cx b k l H Q) (hfar : 10 ^ 60 ≤ far) {p : Addr} {zs : List V} {G : Hp} (S : Same H G) (hp : G p = some (.lst zs)) (hl : zs.length = 12) (P : ∀ z ∈ zs, BadEnd b k l G z) : R__law_bad_forks_7 K A { nx := fun _ H' => Q .non H', rt := Q } [some (.int b), some (.int k), some (.int l), some (.int n), some (.int (startI b k l)), some (.ref p), some (.int far), some (.int (1 + n % 30)), none, none, none, none] G := by
  have c' := c
  obtain ⟨l0, lb, b1, b60, k0, k1, q⟩ := c'
  have hb60 : b.toNat ≤ 60 := by omega
  have hp60 := pow2_60 hb60
  have p60 : (60 : Int) < 10 ^ 60 := by decide +kernel
  have q60 : (2 : Int) ^ 60 < 10 ^ 60 := by decide +kernel
  have m0 : 0 ≤ n % 30 := by omega
  rw [T7_eq]
  refine Sel.dec (fun hlt => ?_) (fun _ => bfin (K := K) (A := A) c [some (.int b), some (.int k), some (.int l), some (.int n), some (.int (startI b k l)), some (.ref p), some (.int far), some (.int (1 + n % 30)), none, none, none, none] rfl S hp (by omega) P)
  have r0 := Int.emod_nonneg n (b := b - 1 - l) (by omega)
  have r1 := Int.emod_lt_of_pos n (b := b - 1 - l) (by omega)
  show BF0 K A { nx := R__law_bad_forks_8 K A { nx := fun _ H' => Q .non H', rt := Q }, rt := Q } [some (.int b), some (.int k), some (.int l), some (.int n), some (.int (startI b k l)), some (.ref p), some (.int far), some (.int (1 + n % 30)), none, none, none, none] G
  refine ⟨by omega, ?_⟩
  show BF1 K A { nx := R__law_bad_forks_8 K A { nx := fun _ H' => Q .non H', rt := Q }, rt := Q } [some (.int b), some (.int k), some (.int l), some (.int n), some (.int (startI b k l)), some (.ref p), some (.int far), some (.int (1 + n % 30)), some (.int (l + 1 + n % (b - 1 - l))), none, none, none] G
  refine ⟨by omega, ?_⟩
  show BF2 K A { nx := R__law_bad_forks_8 K A { nx := fun _ H' => Q .non H', rt := Q }, rt := Q } [some (.int b), some (.int k), some (.int l), some (.int n), some (.int (startI b k l)), some (.ref p), some (.int far), some (.int (1 + n % 30)), some (.int (l + 1 + n % (b - 1 - l))), some (.int (startI b k (l + 1 + n % (b - 1 - l)))), none, none] G
  refine bf2_step ?_
  exact bf3 c hfar (by omega) (by omega) S hp (by omega) (by omega) P
theorem st6 (c : Cx b k l H Q) (hfar : 10 ^ 60 ≤ far) {p : Addr} {zs : List V} {G : Hp} (S : Same H G) (hp : G p = some (.lst zs)) (hl : zs.length = 10) (P : ∀ z ∈ zs, BadEnd b k l G z) : R__law_bad_forks_6 K A { nx := fun _ H' => Q .non H', rt := Q } [some (.int b), some (.int k), some (.int l), some (.int n), some (.int (startI b k l)), some (.ref p), some (.int far), some (.int (1 + n % 30)), none, none, none, none] G := by
  have c' := c
  obtain ⟨l0, lb, b1, b60, k0, k1, q⟩ := c'
  have mo := BadEnd.mono b k l
  have hb60 : b.toNat ≤ 60 := by omega
  have hp60 := pow2_60 hb60
  have hk64 : k.natAbs < 2 ^ 64 := by
    have : (2 : Int) ^ 60 < 2 ^ 64 := by decide
    omega
  have p60 : (60 : Int) < 10 ^ 60 := by decide +kernel
  have q60 : (2 : Int) ^ 60 < 10 ^ 60 := by decide +kernel
  have m0 : 0 ≤ n % 30 := by omega
  unfold R__law_bad_forks_6 tSeq tAsg
  refine more_all mo rfl hp hl P (gn_cons mo (g_tup [.str "fork", .int (b + (1 + n % 30)), .int (Builtin.bitXor (k * 2 ^ (1 + n % 30).toNat) 1), .int (1), .int (2)] (by simp) (fun R h => ⟨⟨by omega, by omega, hk64⟩, h⟩) (fun p H' _ hp => ⟨.tup [.str "fork", .int (b + (1 + n % 30)), .int (Builtin.bitXor (k * 2 ^ (1 + n % 30).toNat) 1), .int (1), .int (2)], .tup hp (.cons (.str _) (.cons (.int _) (.cons (.int _) (.cons (.int _) (.cons (.int _) .nil))))), ok5 (by decide +kernel) rfl rfl rfl rfl (Nat.zero_le _) (Nat.zero_le _) (Nat.zero_le _) (Nat.zero_le _) (Nat.zero_le _), end5 (.inr (.inl (.inr (by omega))))⟩)) fun _ _ => (gn_cons mo (g_tup [.str "fork", .int (b + (1 + n % 30)), .int (0), .int (1), .int (2)] (by simp) (fun R h => h) (fun p H' _ hp => ⟨.tup [.str "fork", .int (b + (1 + n % 30)), .int (0), .int (1), .int (2)], .tup hp (.cons (.str _) (.cons (.int _) (.cons (.int _) (.cons (.int _) (.cons (.int _) .nil))))), ok5 (by decide +kernel) rfl rfl rfl rfl (Nat.zero_le _) (Nat.zero_le _) (Nat.zero_le _) (Nat.zero_le _) (Nat.zero_le _), end5 (.inr (.inl (.inr (by omega))))⟩)) fun _ _ => gn_nil)) (by decide) fun p2 z2 G2 S2 hp2 hl2 P2 => ?_
  exact st7 c hfar (p := p2) (S.trans S2) hp2 hl2 P2
theorem st5 (c : Cx b k l H Q) (hfar : 10 ^ 60 ≤ far) {p : Addr} {zs : List V} {G : Hp} (S : Same H G) (hp : G p = some (.lst zs)) (hl : zs.length = 10) (P : ∀ z ∈ zs, BadEnd b k l G z) : R__law_bad_forks_5 K A { nx := fun _ H' => Q .non H', rt := Q } [some (.int b), some (.int k), some (.int l), some (.int n), some (.int (startI b k l)), some (.ref p), some (.int far), none, none, none, none, none] G := ⟨by decide, st6 c hfar S hp hl P⟩
theorem st4 (c : Cx b k l H Q) (hfar : 10 ^ 60 ≤ far) {p : Addr} {zs : List V} {G : Hp} (S : Same H G) (hp : G p = some (.lst zs)) (hl : zs.length = 7) (P : ∀ z ∈ zs, BadEnd b k l G z) : R__law_bad_forks_4 K A { nx := fun _ H' => Q .non H', rt := Q } [some (.int b), some (.int k), some (.int l), some (.int n), some (.int (startI b k l)), some (.ref p), some (.int far), none, none, none, none, none] G := by
  have c' := c
  obtain ⟨l0, lb, b1, b60, k0, k1, q⟩ := c'
  have mo := BadEnd.mono b k l
  have hb60 : b.toNat ≤ 60 := by omega
  have hp60 := pow2_60 hb60
  have p60 : (60 : Int) < 10 ^ 60 := by decide +kernel
  have q60 : (2 : Int) ^ 60 < 10 ^ 60 := by decide +kernel
  have m0 : 0 ≤ n % 30 := by omega
  unfold R__law_bad_forks_4 tSeq tAsg
  refine more_all mo rfl hp hl P (gn_cons mo (g_tup [.str "fork", .int (far), .int (startI b k l), .int (1), .int (2)] (by simp) (fun R h => h) (fun p H' _ hp => ⟨.tup [.str "fork", .int (far), .int (startI b k l), .int (1), .int (2)], .tup hp (.cons (.str _) (.cons (.int _) (.cons (.int _) (.cons (.int _) (.cons (.int _) .nil))))), ok5 (by decide +kernel) rfl rfl rfl rfl (Nat.zero_le _) (Nat.zero_le _) (Nat.zero_le _) (Nat.zero_le _) (Nat.zero_le _), end5 (.inr (.inl (.inr (by omega))))⟩)) fun _ _ => (gn_cons mo (g_tup [.str "fork", .int (-far), .int (startI b k l), .int (1), .int (2)] (by simp) (fun R h => h) (fun p H' _ hp => ⟨.tup [.str "fork", .int (-far), .int (startI b k l), .int (1), .int (2)], .tup hp (.cons (.str _) (.cons (.int _) (.cons (.int _) (.cons (.int _) (.cons (.int _) .nil))))), ok5 (by decide +kernel) rfl rfl rfl rfl (Nat.zero_le _) (Nat.zero_le _) (Nat.zero_le _) (Nat.zero_le _) (Nat.zero_le _), end5 (.inr (.inl (.inl (by omega))))⟩)) fun _ _ => (gn_cons mo (g_tup [.str "fork", .int (b), .int (far), .int (1), .int (2)] (by simp) (fun R h => h) (fun p H' _ hp => ⟨.tup [.str "fork", .int (b), .int (far), .int (1), .int (2)], .tup hp (.cons (.str _) (.cons (.int _) (.cons (.int _) (.cons (.int _) (.cons (.int _) .nil))))), ok5 (by decide +kernel) rfl rfl rfl rfl (Nat.zero_le _) (Nat.zero_le _) (Nat.zero_le _) (Nat.zero_le _) (Nat.zero_le _), end5 (.inr (.inl (.inr (Int.le_refl b))))⟩)) fun _ _ => gn_nil))) (by decide) fun p2 z2 G2 S2 hp2 hl2 P2 => ?_
  exact st5 c hfar (p := p2) (S.trans S2) hp2 hl2 P2
theorem st3 (c : Cx b k l H Q) {p : Addr} {zs : List V} {G : Hp} (S : Same H G) (hp : G p = some (.lst zs)) (hl : zs.length = 7) (P : ∀ z ∈ zs, BadEnd b k l G z) : R__law_bad_forks_3 K A { nx := fun _ H' => Q .non H', rt := Q } [some (.int b), some (.int k), some (.int l), some (.int n), some (.int (startI b k l)), some (.ref p), none, none, none, none, none, none] G := ⟨⟨by decide, by decide, by decide⟩, ⟨by decide, by decide, by decide⟩, by show ¬ _; decide +kernel, st4 c (by decide +kernel) S hp hl P⟩
theorem st2 (c : Cx b k l H Q) {p : Addr} {zs : List V} {G : Hp} (S : Same H G) (hp : G p = some (.lst zs)) (hl : zs.length = 3) (P : ∀ z ∈ zs, BadEnd b k l G z) : R__law_bad_forks_2 K A { nx := fun _ H' => Q .non H', rt := Q } [some (.int b), some (.int k), some (.int l), some (.int n), some (.int (startI b k l)), some (.ref p), none, none, none, none, none, none] G := by
  have c' := c
  obtain ⟨l0, lb, b1, b60, k0, k1, q⟩ := c'
  have mo := BadEnd.mono b k l
  have hb60 : b.toNat ≤ 60 := by omega
  have hp60 := pow2_60 hb60
  have p60 : (60 : Int) < 10 ^ 60 := by decide +kernel
  have q60 : (2 : Int) ^ 60 < 10 ^ 60 := by decide +kernel
  have m0 : 0 ≤ n % 30 := by omega
  unfold R__law_bad_forks_2 tSeq tAsg
  refine more_all mo rfl hp hl P (gn_cons mo (g_tup [.str "fork", .bl (true), .int (0), .int (1), .int (2)] (by simp) (fun R h => h) (fun p H' _ hp => ⟨.tup [.str "fork", .bl (true), .int (0), .int (1), .int (2)], .tup hp (.cons (.str _) (.cons (.bl _) (.cons (.int _) (.cons (.int _) (.cons (.int _) .nil))))), ok5 (by decide +kernel) rfl rfl rfl rfl (Nat.zero_le _) (Nat.zero_le _) (Nat.zero_le _) (Nat.zero_le _) (Nat.zero_le _), rfl⟩)) fun _ _ => (gn_cons mo (g_tup [.str "fork", .int (-1), .int (0), .int (1), .int (2)] (by simp) (fun R h => h) (fun p H' _ hp => ⟨.tup [.str "fork", .int (-1), .int (0), .int (1), .int (2)], .tup hp (.cons (.str _) (.cons (.int _) (.cons (.int _) (.cons (.int _) (.cons (.int _) .nil))))), ok5 (by decide +kernel) rfl rfl rfl rfl (Nat.zero_le _) (Nat.zero_le _) (Nat.zero_le _) (Nat.zero_le _) (Nat.zero_le _), end5 (.inr (.inl (.inl (by omega))))⟩)) fun _ _ => (gn_cons mo (g_tup [.str "fork"] (by simp) (fun R h => h) (fun p H' _ hp => ⟨.tup [.str "fork"], .tup hp (.cons (.str _) .nil), ok1 (by decide +kernel) (Nat.zero_le _), end1 (by decide +kernel)⟩)) fun _ _ => (gn_cons mo (g_tup [.str "fork", .non, .int (0), .int (1), .int (2)] (by simp) (fun R h => h) (fun p H' _ hp => ⟨.tup [.str "fork", .non, .int (0), .int (1), .int (2)], .tup hp (.cons (.str _) (.cons .non (.cons (.int _) (.cons (.int _) (.cons (.int _) .nil))))), ok5 (by decide +kernel) rfl rfl rfl rfl (Nat.zero_le _) (Nat.zero_le _) (Nat.zero_le _) (Nat.zero_le _) (Nat.zero_le _), rfl⟩)) fun _ _ => gn_nil)))) (by decide) fun p2 z2 G2 S2 hp2 hl2 P2 => ?_
  exact st3 c (p := p2) (S.trans S2) hp2 hl2 P2
theorem st1 (c : Cx b k l H Q) : R__law_bad_forks_1 K A { nx := fun _ H' => Q .non H', rt := Q } [some (.int b), some (.int k), some (.int l), some (.int n), some (.int (startI b k l)), none, none, none, none, none, none, none] H := by
  have c' := c
  obtain ⟨l0, lb, b1, b60, k0, k1, q⟩ := c'
  have mo := BadEnd.mono b k l
  have hb60 : b.toNat ≤ 60 := by omega
  have hp60 := pow2_60 hb60
  have p60 : (60 : Int) < 10 ^ 60 := by decide +kernel
  have q60 : (2 : Int) ^ 60 < 10 ^ 60 := by decide +kernel
  have m0 : 0 ≤ n % 30 := by omega
  have htop : isEndD b k l (.tup [.str "fork", .int l, .int (startI b k l), .int 1, .int 2]) = false := by
    by_cases h : b ≤ l
    · exact end5 (.inr (.inl (.inr h)))
    · exact end5 (.inr (.inr (.inr (.inr (.inl rfl)))))
  have hx1 : Builtin.bitXor (startI b k l) 1 / 2 ^ (l - l).toNat ≠ startI b k l := by
    have h := turnedI (x := startI b k l) (p := 0) (q := 0) (startI_nn k0) (Nat.le_refl 0)
    have e : (l - l).toNat = 0 := by omega
    rw [e]
    simpa using h
  unfold R__law_bad_forks_1 tSeq tAsg
  refine lst_all mo (gn_cons mo (g_tup [.str "fork", .int (l), .int (startI b k l), .int (1), .int (2)] (by simp) (fun R h => h) (fun p H' _ hp => ⟨.tup [.str "fork", .int (l), .int (startI b k l), .int (1), .int (2)], .tup hp (.cons (.str _) (.cons (.int _) (.cons (.int _) (.cons (.int _) (.cons (.int _) .nil))))), ok5 (by decide +kernel) rfl rfl rfl rfl (Nat.zero_le _) (Nat.zero_le _) (Nat.zero_le _) (Nat.zero_le _) (Nat.zero_le _), htop⟩)) fun _ _ => (gn_cons mo (g_tup [.str "fork", .int (l), .int (Builtin.bitXor (startI b k l) 1), .int (1), .int (2)] (by simp) (fun R h => h) (fun p H' _ hp => ⟨.tup [.str "fork", .int (l), .int (Builtin.bitXor (startI b k l) 1), .int (1), .int (2)], .tup hp (.cons (.str _) (.cons (.int _) (.cons (.int _) (.cons (.int _) (.cons (.int _) .nil))))), ok5 (by decide +kernel) rfl rfl rfl rfl (Nat.zero_le _) (Nat.zero_le _) (Nat.zero_le _) (Nat.zero_le _) (Nat.zero_le _), end5 (.inr (.inr (.inr (.inl (hx1)))))⟩)) fun _ _ => (gn_cons mo (g_tup [.str "fork", .int (b), .int (Builtin.bitXor k 1), .int (1), .int (2)] (by simp) (fun R h => h) (fun p H' _ hp => ⟨.tup [.str "fork", .int (b), .int (Builtin.bitXor k 1), .int (1), .int (2)], .tup hp (.cons (.str _) (.cons (.int _) (.cons (.int _) (.cons (.int _) (.cons (.int _) .nil))))), ok5 (by decide +kernel) rfl rfl rfl rfl (Nat.zero_le _) (Nat.zero_le _) (Nat.zero_le _) (Nat.zero_le _) (Nat.zero_le _), end5 (.inr (.inl (.inr (Int.le_refl b))))⟩)) fun _ _ => gn_nil))) (by decide) fun p2 z2 G2 S2 hp2 hl2 P2 => ?_
  exact st2 c (p := p2) S2 hp2 hl2 P2
theorem rd__law_bad_forks (T : Txt K mg A) (vs : List V) (H : Hp) (Q : VK) (E : XK) (h : sp__law_bad_forks K A vs H Q E) : T__law_bad_forks K A { nx := fun _ H' => Q .non H', rt := Q } (L2.start ["_law_bits_here", "_law_key_here", "_law_low", "_law_number", "_law_top", "_law_some", "_law_far", "_law_deep_here", "_law_depth", "_law_own", "_law_good_here", "_law_flip"] vs) H := by
  obtain ⟨b, k, l, n, rfl, l0, lb, b1, b60, k0, k1, q⟩ := h
  exact ⟨by omega, st1 (K := K) (A := A) (n := n) ⟨l0, lb, b1, b60, k0, k1, q⟩⟩
end Rs
namespace Rs
open PySem PySem.Spec PyProof.Rows L2
def BadSlip (b k : Int) (H : Hp) (v : V) : Prop := ∃ d, DatW H v d ∧ slipOk d ∧ isSlipD b k d = false
theorem BadSlip.mono (b k : Int) : Mono (BadSlip b k) := fun _ _ _ s ⟨d, w, h⟩ => ⟨d, w.mono s, h⟩
theorem gnc_cons {C : Hp → Prop} {te : TE} {tr : TA} {σ : L2.St} {P : Hp → V → Prop} {n : Nat} (cm : ∀ H H', Same H H' → C H → C H') (mo : Mono P) (h1 : ∀ H, C H → Gives te σ H P) (h2 : ∀ H, C H → GivesN tr σ H P n) : ∀ H, C H → GivesN (tCons te tr) σ H P (n + 1) :=
  fun H c => gn_cons mo (h1 H c) fun H' s => h2 H' (cm _ _ s c)
theorem gnc_nil {C : Hp → Prop} {σ : L2.St} {P : Hp → V → Prop} : ∀ H, C H → GivesN tNil σ H P 0 := fun _ _ => gn_nil
theorem isEnd_shape {b k l : Int} {es : List Dat} (h : isEndD b k l (.tup es) = true) : (∃ z, es = [.str z]) ∨ (∃ z x y, es = [.str z, x, y]) ∨ ∃ z x y u w, es = [.str z, x, y, u, w] := by
  unfold isEndD at h
  split at h
  · rename_i hb
    unfold isBareD at hb
    split at hb
    · rename_i w heq
      cases heq
      cases w with
      | str z => exact .inl ⟨z, rfl⟩
      | _ => cases hb
    · cases hb
  · rw [Bool.or_eq_true] at h
    rcases h with h | h
    · unfold isLeafD at h
      split at h
      · rename_i w x z heq
        cases heq
        cases w with
        | str z => exact .inr (.inl ⟨_, _, _, rfl⟩)
        | _ => simp only [Bool.and_eq_true] at h; cases h.1.1.1
      · cases h
    · rw [Bool.and_eq_true] at h
      obtain ⟨h1, _⟩ := h
      unfold isForkD at h1
      split at h1
      · rename_i w x z u v heq
        cases heq
        cases w with
        | str z => exact .inr (.inr ⟨_, _, _, _, _, rfl⟩)
        | _ => simp only [Bool.and_eq_true] at h1; cases h1.1.1.1
      · cases h1
theorem end_nosteps {b k l : Int} {es : List Dat} (h : isEndD b k l (.tup es) = true) : areStepsD b 0 es = false := by
  rcases isEnd_shape h with ⟨z, rfl⟩ | ⟨z, x, y, rfl⟩ | ⟨z, x, y, u, w, rfl⟩ <;> rfl
theorem end_noslip {b k l : Int} {es : List Dat} (h : isEndD b k l (.tup es) = true) : slipOk (.tup es) ∧ isSlipD b k (.tup es) = false := by
  rcases isEnd_shape h with ⟨z, rfl⟩ | ⟨z, x, y, rfl⟩ | ⟨z, x, y, u, w, rfl⟩ <;> exact ⟨trivial, rfl⟩
theorem steps_noslip {b k : Int} {ds : List Dat} (g : goodSteps b 0 ds) : slipOk (.tup ds) ∧ isSlipD b k (.tup ds) = false := by
  obtain ⟨h, ok, dp⟩ := g
  match ds, h, ok, dp with
  | [], _, _, _ => exact ⟨trivial, rfl⟩
  | [s], h, ok, dp =>
    have h : (isStepD b 0 s && true) = true := h
    rw [Bool.and_true] at h
    obtain ⟨i, m, rfl⟩ := isStep_shape h
    exact ⟨trivial, rfl⟩
  | [s, t], h, ok, dp =>
    have h : (isStepD b 0 s && _) = true := h
    rw [Bool.and_eq_true] at h
    obtain ⟨i, m, rfl⟩ := isStep_shape h.1
    refine ⟨.inl ⟨?_, ?_⟩, rfl⟩
    · have ok : (_ && (okD t && true)) = true := ok
      simp only [Bool.and_eq_true] at ok
      exact ok.2.1
    · have dp : max _ (max (toPy t).depth 0) ≤ 1 := dp
      omega
  | s :: t :: u :: r, h, ok, dp =>
    have h : (isStepD b 0 s && _) = true := h
    rw [Bool.and_eq_true] at h
    obtain ⟨i, m, rfl⟩ := isStep_shape h.1
    exact ⟨trivial, rfl⟩
theorem steps_nostep {b l : Int} {ds : List Dat} (h : areStepsD b l ds = true) : isStepD b 0 (.tup ds) = false := by
  cases ds with
  | nil => rfl
  | cons s r =>
    have h : (isStepD b l s && _) = true := h
    rw [Bool.and_eq_true] at h
    obtain ⟨i, m, rfl⟩ := isStep_shape h.1
    rfl
theorem place_eq (ds : List Dat) : placeFrom 0 ds = placeD ds := rfl
theorem place_in {b : Int} {ds : List Dat} (b1 : 1 ≤ b) (h : areStepsD b 0 ds = true) : 0 ≤ placeFrom 0 ds ∧ placeFrom 0 ds ≤ b := by
  unfold placeFrom
  cases e : ds.getLast? with
  | none => exact ⟨Int.le_refl 0, by show (0 : Int) ≤ b; omega⟩
  | some s =>
    obtain ⟨i, m, rfl, i0, i1⟩ := areSteps_last (Int.le_refl 0) h e
    exact ⟨by show 0 ≤ i + 1; omega, by show i + 1 ≤ b; omega⟩
theorem slip_end {b k : Int} {ds : List Dat} {d : Dat} (h : isEndD b k (placeD ds) d = false) : isSlipD b k (.tup [.tup ds, d]) = false := by
  show (areStepsD b 0 ds && isEndD b k (placeD ds) d) = false
  rw [h, Bool.and_false]
theorem slip_steps {b k : Int} {ds : List Dat} {d : Dat} (h : areStepsD b 0 ds = false) : isSlipD b k (.tup [.tup ds, d]) = false := by
  show (areStepsD b 0 ds && isEndD b k (placeD ds) d) = false
  rw [h, Bool.false_and]
structure Cy (b k l : Int) (a ae : Addr) (ds es : List Dat) (H : Hp) (Q : VK) : Prop where
  b1 : 1 ≤ b
  b60 : b ≤ 60
  k0 : 0 ≤ k
  k1 : k < 2 ^ b.toNat
  g : goodSteps b 0 ds
  hl : l = placeFrom 0 ds
  ok : okD (.tup es) = true
  dp : (toPy (.tup es)).depth ≤ 1
  he : isEndD b k l (.tup es) = true
  ws : DatW H (.ref a) (.tup ds)
  we : DatW H (.ref ae) (.tup es)
  q : ∀ (v : V) (t : Dat) (H' : Hp), Same H H' → DatW H' v t → slipOk t → isSlipD b k t = false → Q v H'
def CC (a ae : Addr) (ds es : List Dat) (G : Hp) : Prop := DatW G (.ref a) (.tup ds) ∧ DatW G (.ref ae) (.tup es)
theorem CC.mono {a ae : Addr} {ds es : List Dat} : ∀ H H', Same H H' → CC a ae ds es H → CC a ae ds es H' := fun _ _ s c => ⟨c.1.mono s, c.2.mono s⟩
variable {K : PySem.W.Frag} {mg : Str → Option Value} {A : Adr} {b k l c0 : Int} {a ae : Addr} {ds es : List Dat} {H : Hp} {Q : VK}
theorem Cy.eok (c : Cy b k l a ae ds es H Q) : endOk (.tup es) := .inl ⟨c.ok, by have := c.dp; omega⟩
theorem Cy.sok (c : Cy b k l a ae ds es H Q) : endOk (.tup ds) := .inl ⟨c.g.2.1, by show PyData.depthAll (toPys ds) + 1 ≤ 140; have := c.g.2.2; omega⟩
theorem bad7 (c : Cy b k l a ae ds es H Q) {p : Addr} {zs : List V} {G : Hp} (S : Same H G) (hp : G p = some (.lst zs)) (hl : zs.length = 25) (P : ∀ z ∈ zs, BadSlip b k G z) :
    R__law_bad_7 K A { nx := fun _ H' => Q .non H', rt := Q } [some (.int c0), some (.int b), some (.int k), some (.ref a), some (.ref ae), some (.int l), some (.int (c0 / 4)), some (.ref p)] G := by
  refine .inl (.inl ⟨_, SqL.of hp, by omega, ?_⟩)
  have z0 := Int.emod_nonneg (c0 / 4) (b := (zs.length : Int)) (by omega)
  have z1 := Int.emod_lt_of_pos (c0 / 4) (b := (zs.length : Int)) (by omega)
  obtain ⟨y, hy⟩ : ∃ y, zs[(c0 / 4 % (zs.length : Int)).toNat]? = some y := ⟨_, List.getElem?_eq_getElem (by omega)⟩
  obtain ⟨d, w, ok, hf⟩ := P y (List.mem_of_getElem? hy)
  exact ixL hp (by omega) hy (c.q _ _ _ S w ok hf)
theorem bad6 (c : Cy b k l a ae ds es H Q) {p : Addr} {zs : List V} {G : Hp} (S : Same H G) (hp : G p = some (.lst zs)) (hl : zs.length = 20) (P : ∀ z ∈ zs, BadSlip b k G z) :
    R__law_bad_6 K A { nx := fun _ H' => Q .non H', rt := Q } [some (.int c0), some (.int b), some (.int k), some (.ref a), some (.ref ae), some (.int l), some (.int (c0 / 4)), some (.ref p)] G := by
  have mo := BadSlip.mono b k
  unfold R__law_bad_6 tSeq tAsg
  refine more_all mo rfl hp hl P
    (gnc_cons (C := CC a ae ds es) CC.mono mo
      (fun G' g R h => ⟨line_ge (n := 1) (by decide), fun l' hl => ⟨line_ge (n := 2) (by decide), fun p hp => h _ _ ((Same.upd hl).trans (Same.upd hp)) ⟨.tup [.tup ds, .tup [.tup es]], .tup upd_same (.cons (g.1.mono ((Same.upd hl).trans (Same.upd hp))) (.cons (.tup (Same.upd hp _ _ upd_same) (.cons (g.2.mono ((Same.upd hl).trans (Same.upd hp))) .nil)) .nil)), ok1 c.ok (by have := c.dp; omega), slip_end (end1 rfl)⟩⟩⟩)
    (gnc_cons CC.mono mo
      (fun G' g R h => ⟨line_ge (n := 1) (by decide), fun l' hl => ⟨line_ge (n := 2) (by decide), fun p hp => h _ _ ((Same.upd hl).trans (Same.upd hp)) ⟨.tup [.tup [.tup ds], .tup es], .tup upd_same (.cons (.tup (Same.upd hp _ _ upd_same) (.cons (g.1.mono ((Same.upd hl).trans (Same.upd hp))) .nil)) (.cons (g.2.mono ((Same.upd hl).trans (Same.upd hp))) .nil)), c.eok, slip_steps (by show (isStepD b 0 (.tup ds) && _) = false; rw [steps_nostep c.g.1]; rfl)⟩⟩⟩)
    (gnc_cons CC.mono mo
      (fun G' g R h => ⟨.ref ae, .tup es, rfl, g.2, c.ok, by have := c.dp; omega, fun v' ds' H' s' w' _ _ => h _ _ s' ⟨.lst ds', w', trivial, rfl⟩⟩)
    (gnc_cons CC.mono mo
      (fun G' g => g_tup [.str "", .ref ae] (by simp) (fun R h => h) (fun p H' S hp => ⟨.tup [.str "", .tup es], .tup hp (.cons (.str _) (.cons (g.2.mono S) .nil)), c.eok, rfl⟩))
    (gnc_cons CC.mono mo
      (fun G' g R h => .inl fun d hd => ⟨line_ge (n := 2) (by decide), fun p hp => h _ _ ((Same.upd hd).trans (Same.upd hp)) ⟨.tup [.dic, .tup es], .tup upd_same (.cons (.dic (.inl ⟨[], Same.upd hp _ _ upd_same⟩)) (.cons (g.2.mono ((Same.upd hd).trans (Same.upd hp))) .nil)), c.eok, rfl⟩⟩)
    gnc_nil)))) G ⟨c.ws.mono S, c.we.mono S⟩) (by decide) fun p2 z2 G2 S2 hp2 hl2 P2 => ?_
  exact bad7 (K := K) (A := A) (c0 := c0) c (p := p2) (S.trans S2) hp2 hl2 P2
theorem bad5 (c : Cy b k l a ae ds es H Q) {p : Addr} {zs : List V} {G : Hp} (S : Same H G) (hp : G p = some (.lst zs)) (hl : zs.length = 9) (P : ∀ z ∈ zs, BadSlip b k G z) :
    R__law_bad_5 K A { nx := fun _ H' => Q .non H', rt := Q } [some (.int c0), some (.int b), some (.int k), some (.ref a), some (.ref ae), some (.int l), some (.int (c0 / 4)), some (.ref p)] G := by
  have mo := BadSlip.mono b k
  unfold R__law_bad_5 tSeq tAsg
  refine more_all mo rfl hp hl P
    (gnc_cons (C := CC a ae ds es) CC.mono mo
      (fun G' g => g_tup [] (by simp) (fun R h => h) (fun p H' S hp => ⟨.tup [], .tup hp .nil, trivial, rfl⟩))
    (gnc_cons CC.mono mo
      (fun G' g => g_lst [] (by simp) (fun R h => h) (fun p H' S hp => ⟨.lst [], .lst hp .nil, trivial, rfl⟩))
    (gnc_cons CC.mono mo
      (fun G' g R h => .inl fun d hd => h _ _ (Same.upd hd) ⟨.dic, .dic (.inl ⟨[], upd_same⟩), trivial, rfl⟩)
    (gnc_cons CC.mono mo
      (fun G' g => g_tup [.str "bare"] (by simp) (fun R h => h) (fun p H' S hp => ⟨.tup [.str "bare"], .tup hp (.cons (.str _) .nil), trivial, rfl⟩))
    (gnc_cons CC.mono mo
      (fun G' g => g_val (.int k) (fun R h => h) ⟨.int k, .int _, trivial, rfl⟩)
    (gnc_cons CC.mono mo
      (fun G' g => g_val (.str "leaf") (fun R h => h) ⟨.str "leaf", .str _, trivial, rfl⟩)
    (gnc_cons CC.mono mo
      (fun G' g => g_tup [.ref ae, .ref a] (by simp) (fun R h => h) (fun p H' S hp => ⟨.tup [.tup es, .tup ds], .tup hp (.cons (g.2.mono S) (.cons (g.1.mono S) .nil)), c.sok, slip_steps (end_nosteps c.he)⟩))
    (gnc_cons CC.mono mo
      (fun G' g => g_val (.ref a) (fun R h => h) ⟨.tup ds, g.1, steps_noslip c.g⟩)
    (gnc_cons CC.mono mo
      (fun G' g => g_val (.ref ae) (fun R h => h) ⟨.tup es, g.2, end_noslip c.he⟩)
    (gnc_cons CC.mono mo
      (fun G' g => g_tup [.non, .ref ae] (by simp) (fun R h => h) (fun p H' S hp => ⟨.tup [.non, .tup es], .tup hp (.cons .non (.cons (g.2.mono S) .nil)), c.eok, rfl⟩))
    (gnc_cons CC.mono mo
      (fun G' g => g_tup [.ref a, .non] (by simp) (fun R h => h) (fun p H' S hp => ⟨.tup [.tup ds, .non], .tup hp (.cons (g.1.mono S) (.cons .non .nil)), .inl ⟨rfl, by decide⟩, slip_end rfl⟩))
    gnc_nil)))))))))) G ⟨c.ws.mono S, c.we.mono S⟩) (by decide) fun p2 z2 G2 S2 hp2 hl2 P2 => ?_
  exact bad6 (K := K) (A := A) (c0 := c0) c (p := p2) (S.trans S2) hp2 hl2 P2
theorem bad4 (c : Cy b k l a ae ds es H Q) {G : Hp} (S : Same H G) :
    R__law_bad_4 K A { nx := fun _ H' => Q .non H', rt := Q } [some (.int c0), some (.int b), some (.int k), some (.ref a), some (.ref ae), some (.int l), some (.int (c0 / 4)), none] G := by
  have mo := BadSlip.mono b k
  unfold R__law_bad_4 tSeq tAsg
  refine lst_all mo
    (gnc_cons (C := CC a ae ds es) CC.mono mo
      (fun G' g => g_lst [.ref a, .ref ae] (by simp) (fun R h => h) (fun p H' S hp => ⟨.lst [.tup ds, .tup es], .lst hp (.cons (g.1.mono S) (.cons (g.2.mono S) .nil)), trivial, rfl⟩))
    (gnc_cons CC.mono mo
      (fun G' g => g_tup [.ref a] (by simp) (fun R h => h) (fun p H' S hp => ⟨.tup [.tup ds], .tup hp (.cons (g.1.mono S) .nil), trivial, rfl⟩))
    (gnc_cons CC.mono mo
      (fun G' g => g_tup [.ref a, .ref ae, .ref ae] (by simp) (fun R h => h) (fun p H' S hp => ⟨.tup [.tup ds, .tup es, .tup es], .tup hp (.cons (g.1.mono S) (.cons (g.2.mono S) (.cons (g.2.mono S) .nil))), trivial, rfl⟩))
    (gnc_cons CC.mono mo
      (fun G' g R h => by
        obtain ⟨w1, w2⟩ := g
        cases w1 with
        | @tup _ xs _ e r =>
          exact ⟨a, xs, rfl, .inr (SqT.of e), fun d hd => ⟨line_ge (n := 2) (by decide), fun p hp => h _ _ ((Same.upd hd).trans (Same.upd hp)) ⟨.tup [.lst ds, .tup es], .tup upd_same (.cons (.lst (Same.upd hp _ _ upd_same) (r.mono ((Same.upd hd).trans (Same.upd hp)))) (.cons (w2.mono ((Same.upd hd).trans (Same.upd hp))) .nil)), c.eok, rfl⟩⟩⟩)
    (gnc_cons CC.mono mo
      (fun G' g R h => by
        obtain ⟨w1, w2⟩ := g
        cases w2 with
        | @tup _ xs _ e r =>
          exact ⟨ae, xs, rfl, .inr (SqT.of e), fun d hd => ⟨line_ge (n := 2) (by decide), fun p hp => h _ _ ((Same.upd hd).trans (Same.upd hp)) ⟨.tup [.tup ds, .lst es], .tup upd_same (.cons (w1.mono ((Same.upd hd).trans (Same.upd hp))) (.cons (.lst (Same.upd hp _ _ upd_same) (r.mono ((Same.upd hd).trans (Same.upd hp)))) .nil)), .inl ⟨c.ok, by have := c.dp; show (toPy (.tup es)).depth ≤ 140; omega⟩, slip_end rfl⟩⟩⟩)
    (gnc_cons CC.mono mo
      (fun G' g => g_val .non (fun R h => h) ⟨.non, .non, trivial, rfl⟩)
    (gnc_cons CC.mono mo
      (fun G' g => g_val (.str "") (fun R h => h) ⟨.str "", .str _, trivial, rfl⟩)
    (gnc_cons CC.mono mo
      (fun G' g => g_val (.int 0) (fun R h => h) ⟨.int 0, .int _, trivial, rfl⟩)
    (gnc_cons CC.mono mo
      (fun G' g => g_val (.bl true) (fun R h => h) ⟨.bl true, .bl _, trivial, rfl⟩)
    gnc_nil)))))))) G ⟨c.ws.mono S, c.we.mono S⟩) (by decide) fun p2 z2 G2 S2 hp2 hl2 P2 => ?_
  exact bad5 (K := K) (A := A) (c0 := c0) c (p := p2) (S.trans S2) hp2 hl2 P2
theorem badPick (c : Cy b k l a ae ds es H Q) {p : Addr} {zs : List V} {G : Hp} (S : Same H G) (hp : G p = some (.lst zs)) (hn : zs ≠ []) (P : BadEnds b k l G zs) :
    tRet (tTup (tCons (mVar 3) (tCons (tOp (rIxA K) (mVar 7) (tOp (mMod) (mVar 6) (tCB (kLenA K) (tCons (mVar 7) (tNil))))) (tNil)))) { nx := fun _ H' => Q .non H', rt := Q } [some (.int c0), some (.int b), some (.int k), some (.ref a), some (.ref ae), some (.int l), some (.int (c0 / 4)), some (.ref p)] G := by
  have hlen : 0 < zs.length := List.length_pos_iff.mpr hn
  refine .inl (.inl ⟨_, SqL.of hp, by omega, ?_⟩)
  have z0 := Int.emod_nonneg (c0 / 4) (b := (zs.length : Int)) (by omega)
  have z1 := Int.emod_lt_of_pos (c0 / 4) (b := (zs.length : Int)) (by omega)
  obtain ⟨y, hy⟩ : ∃ y, zs[(c0 / 4 % (zs.length : Int)).toNat]? = some y := ⟨_, List.getElem?_eq_getElem (by omega)⟩
  obtain ⟨d, w, ok, hf⟩ := P y (List.mem_of_getElem? hy)
  rw [c.hl, place_eq] at hf
  refine ixL hp (by omega) hy ⟨line_ge (n := 2) (by decide), fun r hr => ?_⟩
  exact c.q _ (.tup [.tup ds, d]) _ (S.trans (Same.upd hr)) (.tup upd_same (.cons (c.ws.mono (S.trans (Same.upd hr))) (.cons (w.mono (Same.upd hr)) .nil))) ok (slip_end hf)
theorem bad3 (c : Cy b k l a ae ds es H Q) {G : Hp} (S : Same H G) :
    R__law_bad_3 K A { nx := fun _ H' => Q .non H', rt := Q } [some (.int c0), some (.int b), some (.int k), some (.ref a), some (.ref ae), some (.int l), some (.int (c0 / 4)), none] G := by
  have hpl := place_in c.b1 c.g.1
  have hl := c.hl
  refine ⟨by decide, Sel.dec (fun h => ?_) (fun h => bad4 c S)⟩
  refine ⟨⟨by decide, by decide⟩, b, k, l, _, rfl, by omega, by omega, c.b1, c.b60, c.k0, c.k1, fun p xs H' S' hp hn P => ?_⟩
  exact badPick c (S.trans S') hp hn P
theorem bad2 (c : Cy b k l a ae ds es H Q) {G : Hp} (S : Same H G) :
    R__law_bad_2 K A { nx := fun _ H' => Q .non H', rt := Q } [some (.int c0), some (.int b), some (.int k), some (.ref a), some (.ref ae), some (.int l), some (.int (c0 / 4)), none] G := by
  have hpl := place_in c.b1 c.g.1
  have hl := c.hl
  refine ⟨by decide, Sel.dec (fun h => ?_) (fun h => bad3 c S)⟩
  refine ⟨⟨by decide, by decide⟩, b, k, l, _, rfl, by omega, by omega, c.b1, c.b60, c.k0, c.k1, fun p xs H' S' hp hn P => ?_⟩
  exact badPick c (S.trans S') hp hn P
theorem bad1 (c : Cy b k l a ae ds es H Q) :
    R__law_bad_1 K A { nx := fun _ H' => Q .non H', rt := Q } [some (.int c0), some (.int b), some (.int k), some (.ref a), some (.ref ae), some (.int l), some (.int (c0 / 4)), none] H := by
  refine ⟨by decide, Sel.dec (fun h => ?_) (fun h => Sel.f (bad2 c (.refl H)))⟩
  refine ⟨line_ge (n := 0) (by decide), fun t ht => ?_⟩
  have S := Same.upd (o := .tup []) ht
  refine ⟨_, _, (c.ws.mono S).toV c.g.2.1, .tup (SqT.of upd_same) .nil, lay_toPy (d := .tup ds) c.g.2.1, rfl, by show PyData.depthAll (toPys ds) + 1 ≤ 150; have := c.g.2.2; omega, ?_⟩
  cases hd : ds with
  | nil => exact Sel.no rfl (bad2 c S)
  | cons d0 dr =>
    refine Sel.yes rfl ?_
    refine ⟨_, b, .ref a, ds, rfl, c.b1, c.b60, c.ws.mono S, c.g, by rw [hd]; simp, fun v' es' H' S' w' hf => ⟨line_ge (n := 2) (by decide), fun r hr => ?_⟩⟩
    have S3 := S.trans (S'.trans (Same.upd (o := .tup [v', .ref ae]) hr))
    exact c.q _ (.tup [.tup es', .tup es]) _ S3 (.tup upd_same (.cons (w'.mono (Same.upd hr)) (.cons (c.we.mono S3) .nil))) c.eok (slip_steps hf)
theorem len__law_bad (K : PySem.W.Frag) (A : Adr) : ∀ vs H Q E, sp__law_bad K A vs H Q E → vs.length = 6 := by rintro vs H Q E ⟨c, b, k, l, s, e, ds, d, rfl, _⟩; rfl
theorem rd__law_bad (T : Txt K mg A) (vs : List V) (H : Hp) (Q : VK) (E : XK) (h : sp__law_bad K A vs H Q E) : T__law_bad K A { nx := fun _ H' => Q .non H', rt := Q } (L2.start ["_law_cell", "_law_bits_here", "_law_key_here", "_law_steps_here", "_law_end_here", "_law_low", "_law_number", "_law_some"] vs) H := by
  obtain ⟨c, b, k, l, s, e, ds, d, rfl, b1, b60, k0, k1, ws, g, hl, we, ok, dp, ⟨es, rfl⟩, he, q⟩ := h
  obtain ⟨a, rfl⟩ : ∃ a, s = .ref a := by cases ws; exact ⟨_, rfl⟩
  obtain ⟨ae, rfl⟩ : ∃ a, e = .ref a := by cases we; exact ⟨_, rfl⟩
  exact ⟨⟨by decide, by decide⟩, bad1 ⟨b1, b60, k0, k1, g, hl, ok, dp, he, ws, we, q⟩⟩
def GoodEnd (b k l : Int) (H : Hp) (v : V) : Prop := ∃ d, DatW H v d ∧ endOk d ∧ noL d = true ∧ isEndD b k l d = true
theorem GoodEnd.mono (b k l : Int) : Mono (GoodEnd b k l) := fun _ _ _ s ⟨d, w, h⟩ => ⟨d, w.mono s, h⟩
structure Gd (b k l : Int) (H G : Hp) (p : Addr) (n m : Nat) : Prop where
  S : Same H G
  hp0 : H p = none
  ex : ∃ zs, G p = some (.lst zs) ∧ n ≤ zs.length ∧ zs.length ≤ m ∧ ∀ z ∈ zs, GoodEnd b k l G z
theorem Gd.more {b k l : Int} {H G : Hp} {p t : Addr} {n m : Nat} {vs : List V} {dd : List Dat} {zs : List V} (g : Gd b k l H G p n m) (hz : G p = some (.lst zs)) (ht : G t = none) (w : DatWs (upd G t (.tup vs)) vs dd) (ok : endOk (.tup dd)) (nl : noLs dd = true) (he : isEndD b k l (.tup dd) = true) :
    Gd b k l H (upd (upd G t (.tup vs)) p (.lst (zs ++ [.ref t]))) p n (m + 1) := by
  obtain ⟨S, hp0, zs', hz', l1, l2, P⟩ := g
  rw [hz] at hz'; cases hz'
  have tp : t ≠ p := fun e => by subst e; rw [ht] at hz; cases hz
  have S1 := Same.upd (o := .tup vs) ht
  have hp1 : upd G t (.tup vs) p = some (.lst zs) := S1 _ _ hz
  have kp : ∀ b o, upd G t (.tup vs) b = some o → b ≠ p → upd (upd G t (.tup vs)) p (.lst (zs ++ [.ref t])) b = some o := fun b o e n => by rw [upd_ne n]; exact e
  have nD : ∀ b o, upd G t (.tup vs) b = some o → (∀ xs, o ≠ .lst xs) → b ≠ p := fun b o e n z => by subst z; rw [hp1] at e; cases e; exact n _ rfl
  refine ⟨fun y o e => ?_, hp0, _, upd_same, by simp; omega, by simp; omega, fun z hz => ?_⟩
  · rw [upd_ne (ne_of_none e hp0)]; exact S1 _ _ (S _ _ e)
  · rcases List.mem_append.mp hz with h | h
    · obtain ⟨d, wd, okd, nld, hd⟩ := P z h
      exact ⟨d, (wd.mono S1).keep kp (fun _ => nD) nld, okd, nld, hd⟩
    · have h := List.mem_singleton.mp h
      subst h
      have w1 : DatW (upd G t (.tup vs)) (.ref t) (.tup dd) := .tup upd_same w
      exact ⟨.tup dd, w1.keep kp (fun _ => nD) nl, ok, nl, he⟩
theorem flip_low (x j q : Nat) (h : j < q) : (x ^^^ 2 ^ j) / 2 ^ q = x / 2 ^ q := by
  rw [← Nat.shiftRight_eq_div_pow, ← Nat.shiftRight_eq_div_pow, Nat.shiftRight_xor_distrib]
  have : 2 ^ j >>> q = 0 := by rw [Nat.shiftRight_eq_div_pow]; exact Nat.div_eq_of_lt (Nat.pow_lt_pow_right (by decide) h)
  rw [this, Nat.xor_zero]
theorem flipI {x : Int} {j q m : Nat} (x0 : 0 ≤ x) (h : j < q) (hm : j < m) (x1 : x < 2 ^ m) : Builtin.bitXor x (1 * 2 ^ j) / 2 ^ q = x / 2 ^ q ∧ 0 ≤ Builtin.bitXor x (1 * 2 ^ j) ∧ Builtin.bitXor x (1 * 2 ^ j) < 2 ^ m := by
  obtain ⟨y, rfl⟩ := Int.eq_ofNat_of_zero_le x0
  have e : (1 : Int) * 2 ^ j = ((2 ^ j : Nat) : Int) := by rw [Int.one_mul, pow2z]
  rw [e, bitXor_nat, ← pow2z, ← pow2z]
  refine ⟨by exact_mod_cast flip_low y j q h, by omega, ?_⟩
  have y1 : y < 2 ^ m := by rw [← pow2z] at x1; exact_mod_cast x1
  have := Nat.xor_lt_two_pow (n := m) y1 (Nat.pow_lt_pow_right (by decide : 1 < 2) hm)
  exact_mod_cast this
theorem xor1_ne (x : Int) (x0 : 0 ≤ x) : Builtin.bitXor x 1 ≠ x := by
  have h := turnedI (x := x) (p := 0) (q := 0) x0 (Nat.le_refl 0)
  simpa using h
structure Cz (b k l n : Int) (s : V) (ds : List Dat) (H : Hp) (Q : VK) : Prop where
  b1 : 1 ≤ b
  b60 : b ≤ 60
  k0 : 0 ≤ k
  k1 : k < 2 ^ b.toNat
  n0 : 0 ≤ n
  ws : DatW H s (.tup ds)
  g : goodSteps b 0 ds
  hl : l = placeFrom 0 ds
  q : ∀ (v : V) (t : Dat) (H' : Hp), Same H H' → DatW H' v t → slipOk t → isSlipD b k t = true → Q v H'
variable {n : Int} {s : V}
theorem good4 (c : Cz b k l n s ds H Q) {p : Addr} {G : Hp} {x6 : Option V} {m : Nat} (g : Gd b k l H G p 3 m) :
    R__law_good_4 K A { nx := fun _ H' => Q .non H', rt := Q } [some (.int b), some (.int k), some s, some (.int l), some (.int n), some (.ref p), x6] G := by
  obtain ⟨S, hp0, zs, hp, l1, l2, P⟩ := g
  refine ⟨⟨by decide, by decide⟩, .inl (.inl ⟨_, SqL.of hp, by omega, ?_⟩)⟩
  have z0 := Int.emod_nonneg (n / 7) (b := (zs.length : Int)) (by omega)
  have z1 := Int.emod_lt_of_pos (n / 7) (b := (zs.length : Int)) (by omega)
  obtain ⟨y, hy⟩ : ∃ y, zs[(n / 7 % (zs.length : Int)).toNat]? = some y := ⟨_, List.getElem?_eq_getElem (by omega)⟩
  obtain ⟨d, w, ok, _, hf⟩ := P y (List.mem_of_getElem? hy)
  rw [c.hl, place_eq] at hf
  refine ixL hp (by omega) hy ⟨line_ge (n := 2) (by decide), fun r hr => ?_⟩
  refine c.q _ (.tup [.tup ds, d]) _ (S.trans (Same.upd hr)) (.tup upd_same (.cons (c.ws.mono (S.trans (Same.upd hr))) (.cons (w.mono (Same.upd hr)) .nil))) ok ?_
  show (areStepsD b 0 ds && isEndD b k (placeD ds) d) = true
  rw [c.g.1, hf]; rfl
def GBr (K : PySem.W.Frag) (A : Adr) : TS := tSeq (tDrop (tBM K "list" rAppend (mVar 5) (tCons (tTup (tCons (tC (.str "fork")) (tCons (mVar 6) (tCons (tOp (mXor) (tOp (mShr) (mVar 1) (tOp (mSub) (mVar 0) (mVar 6))) (tC (.int 1))) (tCons (tC (.int 0)) (tCons (tOp (mSub) (tOp (mPow) (tC (.int 10)) (tC (.int 60))) (tC (.int 1))) (tNil))))))) (tNil)))) (tDrop (tBM K "list" rAppend (mVar 5) (tCons (tTup (tCons (tC (.str "fork")) (tCons (mVar 6) (tCons (tOp (mXor) (tOp (mShr) (mVar 1) (tOp (mSub) (mVar 0) (mVar 6))) (tC (.int 1))) (tCons (tC (.str "")) (tCons (tC (.str "x")) (tNil))))))) (tNil))))
theorem good3b (c : Cz b k l n s ds H Q) {p : Addr} {G : Hp} {m : Nat} {e : Int} (hm : m ≤ 10) (le : l < e) (eb : e < b) (g : Gd b k l H G p 3 m) :
    GBr K A { nx := R__law_good_4 K A { nx := fun _ H' => Q .non H', rt := Q }, rt := Q } [some (.int b), some (.int k), some s, some (.int l), some (.int n), some (.ref p), some (.int e)] G := by
  have hpl := place_in c.b1 c.g.1
  have hl := c.hl
  have hb60 := c.b60
  have e0 : 0 ≤ startI b k e := startI_nn c.k0
  have ge : ∀ m n : Dat, isStampD m = true → isStampD n = true → isEndD b k l (.tup [.str "fork", .int e, .int (Builtin.bitXor (startI b k e) 1), m, n]) = true := by
    intro m n hm hn
    refine end_fork (by omega) (by omega) (xor_nn e0) ?_ ?_ (xor1_ne _ e0) hm hn
    · have := (flipI (x := startI b k e) (j := 0) (q := 1) (m := e.toNat) e0 (by decide) (by omega) (startI_lt (by omega) (by omega) c.k1)).2.2
      simpa using this
    · rw [low_bitI e0 (by omega), startI_start (by omega) (by omega)]
  obtain ⟨S, hp0, zs, hp, l1, l2, P⟩ := id g
  refine ⟨.inl ⟨rfl, _, SqL.of hp⟩, by omega, ⟨by decide, by decide, by decide⟩, line_ge (n := 5) (by decide), fun t ht => ?_⟩
  have S1 := Same.upd (o := .tup [V.str "fork", .int e, .int (Builtin.bitXor (startI b k e) 1), .int 0, .int (10 ^ (60 : Int).toNat - 1)]) ht
  refine ⟨p, zs, .ref t, rfl, rfl, S1 _ _ hp, small1000 (by omega), ?_⟩
  have g2 := g.more hp ht (vs := [V.str "fork", .int e, .int (Builtin.bitXor (startI b k e) 1), .int 0, .int (10 ^ (60 : Int).toNat - 1)]) (dd := [.str "fork", .int e, .int (Builtin.bitXor (startI b k e) 1), .int 0, .int (10 ^ (60 : Int).toNat - 1)])
    (.cons (.str _) (.cons (.int _) (.cons (.int _) (.cons (.int _) (.cons (.int _) .nil))))) (ok5 okS_fork rfl rfl rfl rfl (Nat.zero_le _) (Nat.zero_le _) (Nat.zero_le _) (Nat.zero_le _) (Nat.zero_le _)) rfl (ge _ _ (by decide +kernel) (by decide +kernel))
  unfold startI at g2
  generalize upd (upd G t (.tup [V.str "fork", .int e, .int (Builtin.bitXor (k / 2 ^ (b - e).toNat) 1), .int 0, .int (10 ^ (60 : Int).toNat - 1)])) p (.lst (zs ++ [.ref t])) = G2 at g2 ⊢
  obtain ⟨S2, _, z2, hp2, m1, m2, P2⟩ := id g2
  refine ⟨.inl ⟨rfl, _, SqL.of hp2⟩, by omega, line_ge (n := 5) (by decide), fun u hu => ?_⟩
  refine ⟨p, z2, .ref u, rfl, rfl, Same.upd hu _ _ hp2, small1000 (by omega), ?_⟩
  exact good4 (K := K) (A := A) c (g2.more hp2 hu (vs := [V.str "fork", .int e, .int (Builtin.bitXor (startI b k e) 1), .str "", .str "x"]) (dd := [.str "fork", .int e, .int (Builtin.bitXor (startI b k e) 1), .str "", .str "x"])
    (.cons (.str _) (.cons (.int _) (.cons (.int _) (.cons (.str _) (.cons (.str _) .nil))))) (ok5 okS_fork rfl rfl (by decide +kernel) (by decide +kernel) (Nat.zero_le _) (Nat.zero_le _) (Nat.zero_le _) (Nat.zero_le _) (Nat.zero_le _)) rfl (ge _ _ rfl rfl))
theorem good3 (c : Cz b k l n s ds H Q) {p : Addr} {G : Hp} {m : Nat} (hm : m ≤ 10) (g : Gd b k l H G p 3 m) :
    R__law_good_3 K A { nx := fun _ H' => Q .non H', rt := Q } [some (.int b), some (.int k), some s, some (.int l), some (.int n), some (.ref p), none] G := by
  have hpl := place_in c.b1 c.g.1
  have hl := c.hl
  refine Sel.dec (fun hlt => ?_) (fun _ => good4 (K := K) (A := A) c g)
  have hb : l + 1 < b := hlt
  have r0 := Int.emod_nonneg n (b := b - 1 - l) (by omega)
  have r1 := Int.emod_lt_of_pos n (b := b - 1 - l) (by omega)
  refine ⟨by omega, ?_⟩
  show GBr K A { nx := R__law_good_4 K A { nx := fun _ H' => Q .non H', rt := Q }, rt := Q } [some (.int b), some (.int k), some s, some (.int l), some (.int n), some (.ref p), some (.int (l + 1 + n % (b - 1 - l)))] G
  exact good3b c hm (by omega) (by omega) g
theorem good2 (c : Cz b k l n s ds H Q) {p : Addr} {G : Hp} {m : Nat} (hm : m ≤ 9) (g : Gd b k l H G p 3 m) :
    R__law_good_2 K A { nx := fun _ H' => Q .non H', rt := Q } [some (.int b), some (.int k), some s, some (.int l), some (.int n), some (.ref p), none] G := by
  have hpl := place_in c.b1 c.g.1
  have hl := c.hl
  refine Sel.dec (fun hlt => ?_) (fun _ => good3 (K := K) (A := A) c (by omega) g)
  have hb : l < b := hlt
  have hb60 := c.b60
  have r0 := Int.emod_nonneg n (b := b - l) (by omega)
  have r1 := Int.emod_lt_of_pos n (b := b - l) (by omega)
  obtain ⟨f1, f2, f3⟩ := flipI (x := k) (j := (n % (b - l)).toNat) (q := (b - l).toNat) (m := b.toNat) c.k0 (by omega) (by omega) c.k1
  obtain ⟨S, hp0, zs, hp, l1, l2, P⟩ := id g
  refine ⟨.inl ⟨rfl, _, SqL.of hp⟩, by omega, ⟨by omega, by omega, by decide⟩, line_ge (n := 3) (by decide), fun t ht => ?_⟩
  refine ⟨p, zs, .ref t, rfl, rfl, Same.upd ht _ _ hp, small1000 (by omega), ?_⟩
  exact good3 c (by omega) (g.more hp ht (vs := [V.str "leaf", .int (Builtin.bitXor k (1 * 2 ^ (n % (b - l)).toNat)), .str "b"]) (dd := [.str "leaf", .int (Builtin.bitXor k (1 * 2 ^ (n % (b - l)).toNat)), .str "b"])
    (.cons (.str _) (.cons (.int _) (.cons (.str _) .nil))) (ok3 okS_leaf rfl (by decide +kernel) (Nat.zero_le _) (Nat.zero_le _) (Nat.zero_le _)) rfl (end_leaf (by omega) (by omega) f2 f3 f1 (by decide +kernel)))
theorem good1 (c : Cz b k l n s ds H Q) {p : Addr} {G : Hp} {m : Nat} (hm : m ≤ 8) (g : Gd b k l H G p 3 m) :
    R__law_good_1 K A { nx := fun _ H' => Q .non H', rt := Q } [some (.int b), some (.int k), some s, some (.int l), some (.int n), some (.ref p), none] G := by
  obtain ⟨a, rfl⟩ : ∃ a, s = .ref a := by cases c.ws; exact ⟨_, rfl⟩
  refine ⟨line_ge (n := 0) (by decide), fun t ht => ?_⟩
  have S := Same.upd (o := .tup []) ht
  have g1 : Gd b k l H (upd G t (.tup [])) p 3 m := by
    obtain ⟨S0, hp0, zs, hp, l1, l2, P⟩ := g
    exact ⟨S0.trans S, hp0, zs, S _ _ hp, l1, l2, fun z hz => GoodEnd.mono b k l _ _ _ S (P z hz)⟩
  have S1 := g.S.trans S
  refine .inr (.inl ⟨_, _, (c.ws.mono S1).toV c.g.2.1, .tup (SqT.of upd_same) .nil, lay_toPy (d := .tup ds) c.g.2.1, rfl, by show PyData.depthAll (toPys ds) + 1 ≤ 150; have := c.g.2.2; omega, ?_⟩)
  generalize upd G t (.tup []) = G1 at g1 S1 ⊢
  cases hd : ds with
  | cons d0 dr => exact Sel.no rfl (good2 c (by omega) g1)
  | nil =>
    refine Sel.yes rfl ?_
    obtain ⟨S2, hp0, zs, hp, l1, l2, P⟩ := id g1
    refine ⟨.inl ⟨rfl, _, SqL.of hp⟩, line_ge (n := 1) (by decide), fun u hu => ?_⟩
    refine ⟨p, zs, .ref u, rfl, rfl, Same.upd hu _ _ hp, small1000 (by omega), ?_⟩
    refine good2 c (by omega) (g1.more hp hu (vs := [V.str "bare"]) (dd := [.str "bare"]) (.cons (.str _) .nil) (ok1 (by decide +kernel) (Nat.zero_le _)) rfl ?_)
    have h0 : l = 0 := by rw [c.hl, hd]; rfl
    rw [h0]
    unfold isEndD
    have e : isBareD (.tup [.str "bare"]) = true := by show decide (("bare" : Str) = "bare") = true; exact decide_eq_true rfl
    rw [e, if_pos rfl]; rfl
theorem len__law_good (K : PySem.W.Frag) (A : Adr) : ∀ vs H Q E, sp__law_good K A vs H Q E → vs.length = 5 := by rintro vs H Q E ⟨b, k, l, n, s, ds, rfl, _⟩; rfl
theorem rd__law_good (T : Txt K mg A) (vs : List V) (H : Hp) (Q : VK) (E : XK) (h : sp__law_good K A vs H Q E) : T__law_good K A { nx := fun _ H' => Q .non H', rt := Q } (L2.start ["_law_bits_here", "_law_key_here", "_law_steps_here", "_law_low", "_law_number", "_law_some", "_law_depth"] vs) H := by
  obtain ⟨b, k, l, n, s, ds, rfl, b1, b60, k0, k1, n0, ws, g, hl, q⟩ := h
  have hpl := place_in b1 g.1
  have mo := GoodEnd.mono b k l
  have le : ∀ z : Str, z.length ≤ 60 → isEndD b k l (.tup [.str "leaf", .int k, .str z]) = true := fun z hz => end_leaf (by omega) (by omega) k0 k1 rfl hz
  show R__law_good_0 K A _ _ H
  unfold R__law_good_0 tSeq tAsg
  refine (gn_cons mo (g_tup [.str "leaf", .int k, .str ""] (by simp) (fun R h => h) (fun p H' S hp => ⟨.tup [.str "leaf", .int k, .str ""], .tup hp (.cons (.str _) (.cons (.int _) (.cons (.str _) .nil))), ok3 okS_leaf rfl (by decide +kernel) (Nat.zero_le _) (Nat.zero_le _) (Nat.zero_le _), rfl, le _ (by decide +kernel)⟩)) fun _ _ =>
    (gn_cons mo (g_tup [.str "leaf", .int k, .str (PySem.Txt.mul "a" 60)] (by simp) (fun R h => ⟨⟨by decide, by decide, by decide⟩, h⟩) (fun p H' S hp => ⟨.tup [.str "leaf", .int k, .str (PySem.Txt.mul "a" 60)], .tup hp (.cons (.str _) (.cons (.int _) (.cons (.str _) .nil))), ok3 okS_leaf rfl (by decide +kernel) (Nat.zero_le _) (Nat.zero_le _) (Nat.zero_le _), rfl, le _ (by decide +kernel)⟩)) fun _ _ =>
    (gn_cons mo (fun R h => ⟨_, rfl, fun z H1 S1 hz hk => ⟨line_ge (n := 3) (by decide), fun p hp => h _ _ (S1.trans (Same.upd hp)) ⟨.tup [.str "leaf", .int k, .str z], .tup upd_same (.cons (.str _) (.cons (.int _) (.cons (.str _) .nil))), ok3 okS_leaf rfl (okS_z hk (by omega)) (Nat.zero_le _) (Nat.zero_le _) (Nat.zero_le _), rfl, le _ hz⟩⟩⟩) fun _ _ => gn_nil)) : GivesN _ _ H (GoodEnd b k l) 3) _ fun xs H1 S1 hl1 P1 => ⟨line_ge (by omega), fun p hn => ?_⟩
  have hp0 : H p = none := by
    cases e : H p with
    | none => rfl
    | some o => rw [S1 _ _ e] at hn; cases hn
  refine good1 ⟨b1, b60, k0, k1, n0, ws, g, hl, q⟩ (m := 3) (by decide) ⟨S1.trans (Same.upd hn), hp0, xs, upd_same, by omega, by omega, fun x hx => mo _ _ _ (Same.upd hn) (P1 x hx)⟩
end Rs
namespace Rs
open PySem PySem.Spec PyProof.Rows L2
structure Cl (b k l : Int) (a : Addr) (ns : List Int) (as ae : Addr) (ds es : List Dat) (G : Hp) : Prop where
  b1 : 1 ≤ b
  b60 : b ≤ 60
  k0 : 0 ≤ k
  k1 : k < 2 ^ b.toNat
  g : goodSteps b 0 ds
  hl : l = placeFrom 0 ds
  ok : okD (.tup es) = true
  dp : (toPy (.tup es)).depth ≤ 1
  he : isEndD b k l (.tup es) = true
  ws : DatW G (.ref as) (.tup ds)
  we : DatW G (.ref ae) (.tup es)
theorem Cl.mono {b k l : Int} {a : Addr} {ns : List Int} {as ae : Addr} {ds es : List Dat} {G G' : Hp} (c : Cl b k l a ns as ae ds es G) (s : Same G G') : Cl b k l a ns as ae ds es G' := ⟨c.b1, c.b60, c.k0, c.k1, c.g, c.hl, c.ok, c.dp, c.he, c.ws.mono s, c.we.mono s⟩
variable {K : PySem.W.Frag} {mg : Str → Option Value} {A : Adr} {b k l : Int} {a : Addr} {ns : List Int} {as ae : Addr} {ds es : List Dat}
theorem Cl.slip {G : Hp} (c : Cl b k l a ns as ae ds es G) : isSlipD b k (.tup [.tup ds, .tup es]) = true := by
  show (areStepsD b 0 ds && isEndD b k (placeD ds) (.tup es)) = true
  rw [c.g.1, ← place_eq, ← c.hl, c.he]; rfl
theorem Cl.eok {G : Hp} (c : Cl b k l a ns as ae ds es G) : endOk (.tup es) := .inl ⟨c.ok, by have := c.dp; omega⟩
theorem law7 {Q : VK} {x6 : Option V} {G : Hp} (c : Cl b k l a ns as ae ds es G) (q : ∀ H', Q (.bl true) H') : R_law_7 K A { nx := fun _ H' => Q .non H', rt := Q } [some (.ref a), some (.int b), some (.int k), some (.ref as), some (.int l), some (.ref ae), x6] G := by
  refine ⟨line_ge (n := 2) (by decide), fun p hp => ?_⟩
  have S := Same.upd (o := .tup [V.ref as, .ref ae]) hp
  refine ⟨b, k, .ref p, .tup [.tup ds, .tup es], rfl, by have := c.b1; omega, c.b60, .tup upd_same (.cons (c.ws.mono S) (.cons (c.we.mono S) .nil)), c.eok, fun H' S' => ?_⟩
  rw [c.slip]
  exact q H'
theorem law6 {Q : VK} {G : Hp} (hs : SqL K G a (ns.map V.int)) (hn : ns.length ≤ 63) (c : Cl b k l a ns as ae ds es G) (q : ∀ H', Q (.bl true) H') : R_law_6 K A { nx := fun _ H' => Q .non H', rt := Q } [some (.ref a), some (.int b), some (.int k), some (.ref as), some (.int l), some (.ref ae), none] G := by
  obtain ⟨zs, ez, hz⟩ := cutV_ints ns (some 4) (some 44)
  refine ⟨4, rfl, 44, rfl, .inl (.inl ⟨a, _, rfl, hs, fun p hp => ?_⟩)⟩
  rw [ez]
  have S0 := Same.upd (o := .lst (zs.map V.int)) hp
  refine ⟨a, ns, 81, rfl, S0.seq hs, by decide, fun z1 H1 S1 => ⟨a, ns, 82, rfl, (S0.trans S1).seq hs, by decide, fun z2 H2 S2 => ⟨line_ge (n := 2) (by decide), fun p2 hp2 => ?_⟩⟩⟩
  have S3 := Same.upd (o := .lst [V.int z1, .int z2]) hp2
  refine .inl ⟨p, p2, zs.map V.int, [.int z1, .int z2], rfl, rfl, S3 _ _ (S2 _ _ (S1 _ _ upd_same)), upd_same, line_ge (by simp; omega), fun r hr => ?_⟩
  have S4 := ((S0.trans S1).trans (S2.trans S3)).trans (Same.upd (o := .lst (zs.map V.int ++ [.int z1, .int z2])) hr)
  have hr2 : upd (upd H2 p2 (.lst [V.int z1, .int z2])) r (.lst (zs.map V.int ++ [.int z1, .int z2])) r = some (.lst (zs.map V.int ++ [.int z1, .int z2])) := upd_same
  generalize upd (upd H2 p2 (.lst [V.int z1, .int z2])) r (.lst (zs.map V.int ++ [.int z1, .int z2])) = G2 at S4 hr2 ⊢
  have c2 := c.mono S4
  refine ⟨r, rfl, .inl ⟨⟨_, SqL.of hr2⟩, ?_⟩⟩
  refine for_list (xs := zs.map V.int ++ [.int z1, .int z2]) (fun i σ H' => Same G2 H' ∧ ∃ x6, σ = [some (.ref a), some (.int b), some (.int k), some (.ref as), some (.int l), some (.ref ae), x6]) ⟨.refl _, none, rfl⟩ ?_ ?_ ?_
  · rintro i σ H' _ ⟨S, _⟩; exact SqL.of (S _ _ hr2)
  · rintro i x σ H' hx ⟨S, x6, rfl⟩
    obtain ⟨z, rfl⟩ : ∃ z, x = .int z := by
      have := List.mem_of_getElem? hx
      rcases List.mem_append.mp this with h | h
      · obtain ⟨z, _, rfl⟩ := List.mem_map.mp h; exact ⟨z, rfl⟩
      · simp only [List.mem_cons, List.not_mem_nil, or_false] at h
        rcases h with rfl | rfl <;> exact ⟨_, rfl⟩
    have c3 := c2.mono S
    refine ⟨z, b, k, l, .ref as, .ref ae, ds, .tup es, rfl, c3.b1, c3.b60, c3.k0, c3.k1, c3.ws, c3.g, c3.hl, c3.we, c3.ok, c3.dp, ⟨es, rfl⟩, c3.he, fun v t H3 T1 w ok hf => ⟨b, k, v, t, rfl, by have := c3.b1; omega, c3.b60, w, ok, fun H4 T2 => ?_⟩⟩
    rw [hf]
    refine Sel.no rfl ?_
    have c4 := c3.mono (T1.trans T2)
    refine ⟨⟨by decide, by decide, by decide⟩, by decide +kernel, b, k, l, _, .ref as, ds, rfl, c4.b1, c4.b60, c4.k0, c4.k1, Int.emod_nonneg _ (by decide +kernel), c4.ws, c4.g, c4.hl, fun v t H5 T3 w ok hf => ⟨b, k, v, t, rfl, by have := c3.b1; omega, c3.b60, w, ok, fun H6 T4 => ?_⟩⟩
    rw [hf]
    refine Sel.no rfl ?_
    exact ⟨S.trans ((T1.trans T2).trans (T3.trans T4)), _, rfl⟩
  · rintro σ H' ⟨S, x6, rfl⟩
    exact law7 (c2.mono S) q
theorem law5 {Q : VK} {G : Hp} (hs : SqL K G a (ns.map V.int)) (hn : ns.length ≤ 63) (c : Cl b k l a ns as ae ds es G) (q : ∀ H', Q (.bl true) H') : R_law_5 K A { nx := fun _ H' => Q .non H', rt := Q } [some (.ref a), some (.int b), some (.int k), some (.ref as), some (.int l), some (.ref ae), none] G := by
  refine ⟨line_ge (n := 2) (by decide), fun p hp => ?_⟩
  have S := Same.upd (o := .tup [V.ref as, .ref ae]) hp
  refine ⟨b, k, .ref p, .tup [.tup ds, .tup es], rfl, by have := c.b1; omega, c.b60, .tup upd_same (.cons (c.ws.mono S) (.cons (c.we.mono S) .nil)), c.eok, fun H' S' => ?_⟩
  rw [c.slip]
  exact Sel.no rfl (law6 ((S.trans S').seq hs) hn (c.mono (S.trans S')) q)
theorem len_law (K : PySem.W.Frag) (A : Adr) : ∀ vs H Q E, sp_law K A vs H Q E → vs.length = 1 := by rintro vs H Q E ⟨a, ns, rfl, _⟩; rfl
theorem rd_law (T : Txt K mg A) (vs : List V) (H : Hp) (Q : VK) (E : XK) (h : sp_law K A vs H Q E) : T_law K A { nx := fun _ H' => Q .non H', rt := Q } (L2.start ["_law_script", "_law_bits_here", "_law_key_here", "_law_steps_here", "_law_low", "_law_end_here", "_law_cell"] vs) H := by
  obtain ⟨a, ns, rfl, hs, hlen, _, q⟩ := h
  refine ⟨a, ns, 0, rfl, hs, by decide, fun z0 H0 S0 => ⟨z0, rfl, fun b H1 S1 b1 b60 => ?_⟩⟩
  have S1 := S0.trans S1
  show R_law_1 K A _ [some (.ref a), some (.int b), none, none, none, none, none] H1
  refine ⟨a, ns, 1, rfl, S1.seq hs, by decide, fun z1 H2 S2 => ⟨line_ge (n := 0) (by decide), fun o ho => ⟨b, z1, o, rfl, b1, b60, upd_same, fun k H3 S3 k0 k1 => ?_⟩⟩⟩
  have S3 := (S1.trans S2).trans ((Same.upd ho).trans S3)
  show R_law_2 K A _ [some (.ref a), some (.int b), some (.int k), none, none, none, none] H3
  refine ⟨a, ns, 2, rfl, S3.seq hs, by decide, fun z2 H4 S4 => ⟨z2, 0, b, rfl, by decide, by omega, b60, fun ps ds H5 S5 ws g => ?_⟩⟩
  have S5 := S3.trans (S4.trans S5)
  show R_law_3 K A _ [some (.ref a), some (.int b), some (.int k), some (.ref ps), none, none, none] H5
  refine ⟨.ref ps, ds, 0, b, rfl, ws, by decide, g, fun H6 S6 => ?_⟩
  have ws := ws.mono S6
  have S6 := S5.trans S6
  have hpl := place_in b1 g.1
  show R_law_4 K A _ [some (.ref a), some (.int b), some (.int k), some (.ref ps), some (.int (placeFrom 0 ds)), none, none] H6
  refine ⟨a, ns, 3, rfl, S6.seq hs, by decide, fun z3 H7 S7 => ⟨z3, b, k, placeFrom 0 ds, rfl, by omega, by omega, b1, b60, k0, k1, fun v d H8 S8 we ok dp hd he => ?_⟩⟩
  obtain ⟨es, rfl⟩ := hd
  obtain ⟨ae, rfl⟩ : ∃ ae, v = .ref ae := by cases we; exact ⟨_, rfl⟩
  exact law5 ((S6.trans (S7.trans S8)).seq hs) hlen ⟨b1, b60, k0, k1, g, rfl, ok, dp, he, ws.mono (S7.trans S8), we⟩ q
end Rs
namespace Rs
open PySem PySem.Spec PyProof.Rows L2
theorem ok__law_bits {P : Program} {w : World} {K : PySem.W.Frag} {mg : Str → Option Value} {base : Heap} {A : Adr} (T : Txt K mg A)  : FnOk P w K mg base (CX1 P w) 1 A.a__law_bits A.d__law_bits ["_law_cell"] (sp__law_bits K A) :=
  T.f__law_bits.okN sc__law_bits (len__law_bits K A) (fun cdv Ar outer s H vs Q E hr h => ⟨_, tm__law_bits T  cdv Ar outer s H E hr, rd__law_bits T vs H Q E h⟩)
theorem ok__law_at {P : Program} {w : World} {K : PySem.W.Frag} {mg : Str → Option Value} {base : Heap} {A : Adr} (T : Txt K mg A)  : FnOk P w K mg base (CX1 P w) 1 A.a__law_at A.d__law_at ["_law_script", "_law_k"] (sp__law_at K A) :=
  T.f__law_at.okN sc__law_at (len__law_at K A) (fun cdv Ar outer s H vs Q E hr h => ⟨_, tm__law_at T  cdv Ar outer s H E hr, rd__law_at T vs H Q E h⟩)
theorem ok__law_key {P : Program} {w : World} {K : PySem.W.Frag} {mg : Str → Option Value} {base : Heap} {A : Adr} (T : Txt K mg A)  : FnOk P w K mg base (CX1 P w) 1 A.a__law_key A.d__law_key ["_law_bits_here", "_law_cell", "_law_others"] (sp__law_key K A) :=
  T.f__law_key.okN sc__law_key (len__law_key K A) (fun cdv Ar outer s H vs Q E hr h => ⟨_, tm__law_key T  cdv Ar outer s H E hr, rd__law_key T vs H Q E h⟩)
theorem ok__law_mark {P : Program} {w : World} {K : PySem.W.Frag} {mg : Str → Option Value} {base : Heap} {A : Adr} (T : Txt K mg A)  : FnOk P w K mg base (CX1 P w) 1 A.a__law_mark A.d__law_mark ["_law_number"] (sp__law_mark K A) :=
  T.f__law_mark.okN sc__law_mark (len__law_mark K A) (fun cdv Ar outer s H vs Q E hr h => ⟨_, tm__law_mark T  cdv Ar outer s H E hr, rd__law_mark T vs H Q E h⟩)
theorem ok__law_steps {P : Program} {w : World} {K : PySem.W.Frag} {mg : Str → Option Value} {base : Heap} {A : Adr} (T : Txt K mg A) (G__law_mark : FnOk P w K mg base (CX1 P w) 1 A.a__law_mark A.d__law_mark ["_law_number"] (sp__law_mark K A)) : FnOk P w K mg base (CX1 P w) 2 A.a__law_steps A.d__law_steps ["_law_cell", "_law_low", "_law_bits_here"] (sp__law_steps K A) :=
  T.f__law_steps.okN sc__law_steps (len__law_steps K A) (fun cdv Ar outer s H vs Q E hr h => ⟨_, tm__law_steps T G__law_mark cdv Ar outer s H E hr, rd__law_steps T vs H Q E h⟩)
theorem ok__law_place {P : Program} {w : World} {K : PySem.W.Frag} {mg : Str → Option Value} {base : Heap} {A : Adr} (T : Txt K mg A)  : FnOk P w K mg base (CX1 P w) 1 A.a__law_place A.d__law_place ["_law_steps_here", "_law_low"] (sp__law_place K A) :=
  T.f__law_place.okN sc__law_place (len__law_place K A) (fun cdv Ar outer s H vs Q E hr h => ⟨_, tm__law_place T  cdv Ar outer s H E hr, rd__law_place T vs H Q E h⟩)
theorem ok__law_text {P : Program} {w : World} {K : PySem.W.Frag} {mg : Str → Option Value} {base : Heap} {A : Adr} (T : Txt K mg A)  : FnOk P w K mg base (CX1 P w) 1 A.a__law_text A.d__law_text ["_law_cell"] (sp__law_text K A) :=
  T.f__law_text.okN sc__law_text (len__law_text K A) (fun cdv Ar outer s H vs Q E hr h => ⟨_, tm__law_text T  cdv Ar outer s H E hr, rd__law_text T vs H Q E h⟩)
theorem ok__law_end {P : Program} {w : World} {K : PySem.W.Frag} {mg : Str → Option Value} {base : Heap} {A : Adr} (T : Txt K mg A) (G__law_mark : FnOk P w K mg base (CX1 P w) 1 A.a__law_mark A.d__law_mark ["_law_number"] (sp__law_mark K A)) (G__law_text : FnOk P w K mg base (CX1 P w) 1 A.a__law_text A.d__law_text ["_law_cell"] (sp__law_text K A)) : FnOk P w K mg base (CX1 P w) 2 A.a__law_end A.d__law_end ["_law_cell", "_law_bits_here", "_law_key_here", "_law_low"] (sp__law_end K A) :=
  T.f__law_end.okN sc__law_end (len__law_end K A) (fun cdv Ar outer s H vs Q E hr h => ⟨_, tm__law_end T G__law_mark G__law_text cdv Ar outer s H E hr, rd__law_end T vs H Q E h⟩)
theorem ok_is_whole {P : Program} {w : World} {K : PySem.W.Frag} {mg : Str → Option Value} {base : Heap} {A : Adr} (T : Txt K mg A)  : FnOk P w K mg base (CX1 P w) 1 A.a_is_whole A.d_is_whole ["thing"] (sp_is_whole K A) :=
  T.f_is_whole.okN sc_is_whole (len_is_whole K A) (fun cdv Ar outer s H vs Q E hr h => ⟨_, tm_is_whole T  cdv Ar outer s H E hr, rd_is_whole T vs H Q E h⟩)
theorem ok_is_stamp {P : Program} {w : World} {K : PySem.W.Frag} {mg : Str → Option Value} {base : Heap} {A : Adr} (T : Txt K mg A) (G_is_whole : FnOk P w K mg base (CX1 P w) 1 A.a_is_whole A.d_is_whole ["thing"] (sp_is_whole K A)) : FnOk P w K mg base (CX1 P w) 2 A.a_is_stamp A.d_is_stamp ["thing"] (sp_is_stamp K A) :=
  T.f_is_stamp.okN sc_is_stamp (len_is_stamp K A) (fun cdv Ar outer s H vs Q E hr h => ⟨_, tm_is_stamp T G_is_whole cdv Ar outer s H E hr, rd_is_stamp T vs H Q E h⟩)
theorem ok_is_step {P : Program} {w : World} {K : PySem.W.Frag} {mg : Str → Option Value} {base : Heap} {A : Adr} (T : Txt K mg A) (G_is_whole : FnOk P w K mg base (CX1 P w) 1 A.a_is_whole A.d_is_whole ["thing"] (sp_is_whole K A)) (G_is_stamp : FnOk P w K mg base (CX1 P w) 2 A.a_is_stamp A.d_is_stamp ["thing"] (sp_is_stamp K A)) : FnOk P w K mg base (CX1 P w) 3 A.a_is_step A.d_is_step ["bits", "least", "thing"] (sp_is_step K A) :=
  T.f_is_step.okN sc_is_step (len_is_step K A) (fun cdv Ar outer s H vs Q E hr h => ⟨_, tm_is_step T G_is_whole G_is_stamp cdv Ar outer s H E hr, rd_is_step T vs H Q E h⟩)
theorem ok_are_steps {P : Program} {w : World} {K : PySem.W.Frag} {mg : Str → Option Value} {base : Heap} {A : Adr} (T : Txt K mg A) (G_is_step : FnOk P w K mg base (CX1 P w) 3 A.a_is_step A.d_is_step ["bits", "least", "thing"] (sp_is_step K A)) : FnOk P w K mg base (CX1 P w) 4 A.a_are_steps A.d_are_steps ["bits", "thing"] (sp_are_steps K A) :=
  T.f_are_steps.okN sc_are_steps (len_are_steps K A) (fun cdv Ar outer s H vs Q E hr h => ⟨_, tm_are_steps T G_is_step cdv Ar outer s H E hr, rd_are_steps T vs H Q E h⟩)
theorem ok_start {P : Program} {w : World} {K : PySem.W.Frag} {mg : Str → Option Value} {base : Heap} {A : Adr} (T : Txt K mg A)  : FnOk P w K mg base (CX1 P w) 1 A.a_start A.d_start ["bits", "key", "depth"] (sp_start K A) :=
  T.f_start.okN sc_start (len_start K A) (fun cdv Ar outer s H vs Q E hr h => ⟨_, tm_start T  cdv Ar outer s H E hr, rd_start T vs H Q E h⟩)
theorem ok_is_key {P : Program} {w : World} {K : PySem.W.Frag} {mg : Str → Option Value} {base : Heap} {A : Adr} (T : Txt K mg A) (G_is_whole : FnOk P w K mg base (CX1 P w) 1 A.a_is_whole A.d_is_whole ["thing"] (sp_is_whole K A)) : FnOk P w K mg base (CX1 P w) 2 A.a_is_key A.d_is_key ["bits", "thing"] (sp_is_key K A) :=
  T.f_is_key.okN sc_is_key (len_is_key K A) (fun cdv Ar outer s H vs Q E hr h => ⟨_, tm_is_key T G_is_whole cdv Ar outer s H E hr, rd_is_key T vs H Q E h⟩)
theorem ok_is_value {P : Program} {w : World} {K : PySem.W.Frag} {mg : Str → Option Value} {base : Heap} {A : Adr} (T : Txt K mg A)  : FnOk P w K mg base (CX1 P w) 1 A.a_is_value A.d_is_value ["thing"] (sp_is_value K A) :=
  T.f_is_value.okN sc_is_value (len_is_value K A) (fun cdv Ar outer s H vs Q E hr h => ⟨_, tm_is_value T  cdv Ar outer s H E hr, rd_is_value T vs H Q E h⟩)
theorem ok_is_leaf {P : Program} {w : World} {K : PySem.W.Frag} {mg : Str → Option Value} {base : Heap} {A : Adr} (T : Txt K mg A) (G_is_key : FnOk P w K mg base (CX1 P w) 2 A.a_is_key A.d_is_key ["bits", "thing"] (sp_is_key K A)) (G_is_value : FnOk P w K mg base (CX1 P w) 1 A.a_is_value A.d_is_value ["thing"] (sp_is_value K A)) (G_start : FnOk P w K mg base (CX1 P w) 1 A.a_start A.d_start ["bits", "key", "depth"] (sp_start K A)) : FnOk P w K mg base (CX1 P w) 3 A.a_is_leaf A.d_is_leaf ["bits", "depth", "begin", "thing"] (sp_is_leaf K A) :=
  T.f_is_leaf.okN sc_is_leaf (len_is_leaf K A) (fun cdv Ar outer s H vs Q E hr h => ⟨_, tm_is_leaf T G_is_key G_is_value G_start cdv Ar outer s H E hr, rd_is_leaf T vs H Q E h⟩)
theorem ok_is_fork {P : Program} {w : World} {K : PySem.W.Frag} {mg : Str → Option Value} {base : Heap} {A : Adr} (T : Txt K mg A) (G_is_whole : FnOk P w K mg base (CX1 P w) 1 A.a_is_whole A.d_is_whole ["thing"] (sp_is_whole K A)) : FnOk P w K mg base (CX1 P w) 2 A.a_is_fork A.d_is_fork ["bits", "depth", "begin", "thing"] (sp_is_fork K A) :=
  T.f_is_fork.okN sc_is_fork (len_is_fork K A) (fun cdv Ar outer s H vs Q E hr h => ⟨_, tm_is_fork T G_is_whole cdv Ar outer s H E hr, rd_is_fork T vs H Q E h⟩)
theorem ok_is_end {P : Program} {w : World} {K : PySem.W.Frag} {mg : Str → Option Value} {base : Heap} {A : Adr} (T : Txt K mg A) (G_start : FnOk P w K mg base (CX1 P w) 1 A.a_start A.d_start ["bits", "key", "depth"] (sp_start K A)) (G_is_leaf : FnOk P w K mg base (CX1 P w) 3 A.a_is_leaf A.d_is_leaf ["bits", "depth", "begin", "thing"] (sp_is_leaf K A)) (G_is_fork : FnOk P w K mg base (CX1 P w) 2 A.a_is_fork A.d_is_fork ["bits", "depth", "begin", "thing"] (sp_is_fork K A)) (G_is_stamp : FnOk P w K mg base (CX1 P w) 2 A.a_is_stamp A.d_is_stamp ["thing"] (sp_is_stamp K A)) : FnOk P w K mg base (CX1 P w) 4 A.a_is_end A.d_is_end ["bits", "key", "place", "thing"] (sp_is_end K A) :=
  T.f_is_end.okN sc_is_end (len_is_end K A) (fun cdv Ar outer s H vs Q E hr h => ⟨_, tm_is_end T G_start G_is_leaf G_is_fork G_is_stamp cdv Ar outer s H E hr, rd_is_end T vs H Q E h⟩)
theorem ok_is_slip {P : Program} {w : World} {K : PySem.W.Frag} {mg : Str → Option Value} {base : Heap} {A : Adr} (T : Txt K mg A) (G_are_steps : FnOk P w K mg base (CX1 P w) 4 A.a_are_steps A.d_are_steps ["bits", "thing"] (sp_are_steps K A)) (G_is_end : FnOk P w K mg base (CX1 P w) 4 A.a_is_end A.d_is_end ["bits", "key", "place", "thing"] (sp_is_end K A)) : FnOk P w K mg base (CX1 P w) 5 A.a_is_slip A.d_is_slip ["bits", "key", "thing"] (sp_is_slip K A) :=
  T.f_is_slip.okN sc_is_slip (len_is_slip K A) (fun cdv Ar outer s H vs Q E hr h => ⟨_, tm_is_slip T G_are_steps G_is_end cdv Ar outer s H E hr, rd_is_slip T vs H Q E h⟩)
theorem ok__law_deep {P : Program} {w : World} {K : PySem.W.Frag} {mg : Str → Option Value} {base : Heap} {A : Adr} (T : Txt K mg A)  : FnOk P w K mg base (CX1 P w) 1 A.a__law_deep A.d__law_deep ["_law_thing"] (sp__law_deep K A) :=
  T.f__law_deep.okN sc__law_deep (len__law_deep K A) (fun cdv Ar outer s H vs Q E hr h => ⟨_, tm__law_deep T  cdv Ar outer s H E hr, rd__law_deep T vs H Q E h⟩)
theorem ok__law_bad_steps {P : Program} {w : World} {K : PySem.W.Frag} {mg : Str → Option Value} {base : Heap} {A : Adr} (T : Txt K mg A) (G__law_deep : FnOk P w K mg base (CX1 P w) 1 A.a__law_deep A.d__law_deep ["_law_thing"] (sp__law_deep K A)) : FnOk P w K mg base (CX1 P w) 2 A.a__law_bad_steps A.d__law_bad_steps ["_law_cell", "_law_steps_here", "_law_bits_here"] (sp__law_bad_steps K A) :=
  T.f__law_bad_steps.okN sc__law_bad_steps (len__law_bad_steps K A) (fun cdv Ar outer s H vs Q E hr h => ⟨_, tm__law_bad_steps T G__law_deep cdv Ar outer s H E hr, rd__law_bad_steps T vs H Q E h⟩)
theorem ok__law_bad_leaves {P : Program} {w : World} {K : PySem.W.Frag} {mg : Str → Option Value} {base : Heap} {A : Adr} (T : Txt K mg A) (G__law_deep : FnOk P w K mg base (CX1 P w) 1 A.a__law_deep A.d__law_deep ["_law_thing"] (sp__law_deep K A)) : FnOk P w K mg base (CX1 P w) 2 A.a__law_bad_leaves A.d__law_bad_leaves ["_law_bits_here", "_law_key_here", "_law_low", "_law_number"] (sp__law_bad_leaves K A) :=
  T.f__law_bad_leaves.okN sc__law_bad_leaves (len__law_bad_leaves K A) (fun cdv Ar outer s H vs Q E hr h => ⟨_, tm__law_bad_leaves T G__law_deep cdv Ar outer s H E hr, rd__law_bad_leaves T vs H Q E h⟩)
theorem ok__law_bad_forks {P : Program} {w : World} {K : PySem.W.Frag} {mg : Str → Option Value} {base : Heap} {A : Adr} (T : Txt K mg A)  : FnOk P w K mg base (CX1 P w) 1 A.a__law_bad_forks A.d__law_bad_forks ["_law_bits_here", "_law_key_here", "_law_low", "_law_number"] (sp__law_bad_forks K A) :=
  T.f__law_bad_forks.okN sc__law_bad_forks (len__law_bad_forks K A) (fun cdv Ar outer s H vs Q E hr h => ⟨_, tm__law_bad_forks T  cdv Ar outer s H E hr, rd__law_bad_forks T vs H Q E h⟩)
theorem ok__law_bad {P : Program} {w : World} {K : PySem.W.Frag} {mg : Str → Option Value} {base : Heap} {A : Adr} (T : Txt K mg A) (G__law_bad_steps : FnOk P w K mg base (CX1 P w) 2 A.a__law_bad_steps A.d__law_bad_steps ["_law_cell", "_law_steps_here", "_law_bits_here"] (sp__law_bad_steps K A)) (G__law_bad_leaves : FnOk P w K mg base (CX1 P w) 2 A.a__law_bad_leaves A.d__law_bad_leaves ["_law_bits_here", "_law_key_here", "_law_low", "_law_number"] (sp__law_bad_leaves K A)) (G__law_bad_forks : FnOk P w K mg base (CX1 P w) 1 A.a__law_bad_forks A.d__law_bad_forks ["_law_bits_here", "_law_key_here", "_law_low", "_law_number"] (sp__law_bad_forks K A)) (G__law_deep : FnOk P w K mg base (CX1 P w) 1 A.a__law_deep A.d__law_deep ["_law_thing"] (sp__law_deep K A)) : FnOk P w K mg base (CX1 P w) 3 A.a__law_bad A.d__law_bad ["_law_cell", "_law_bits_here", "_law_key_here", "_law_steps_here", "_law_end_here", "_law_low"] (sp__law_bad K A) :=
  T.f__law_bad.okN sc__law_bad (len__law_bad K A) (fun cdv Ar outer s H vs Q E hr h => ⟨_, tm__law_bad T G__law_bad_steps G__law_bad_leaves G__law_bad_forks G__law_deep cdv Ar outer s H E hr, rd__law_bad T vs H Q E h⟩)
theorem ok__law_good {P : Program} {w : World} {K : PySem.W.Frag} {mg : Str → Option Value} {base : Heap} {A : Adr} (T : Txt K mg A) (G__law_text : FnOk P w K mg base (CX1 P w) 1 A.a__law_text A.d__law_text ["_law_cell"] (sp__law_text K A)) : FnOk P w K mg base (CX1 P w) 2 A.a__law_good A.d__law_good ["_law_bits_here", "_law_key_here", "_law_steps_here", "_law_low", "_law_number"] (sp__law_good K A) :=
  T.f__law_good.okN sc__law_good (len__law_good K A) (fun cdv Ar outer s H vs Q E hr h => ⟨_, tm__law_good T G__law_text cdv Ar outer s H E hr, rd__law_good T vs H Q E h⟩)
theorem ok_law {P : Program} {w : World} {K : PySem.W.Frag} {mg : Str → Option Value} {base : Heap} {A : Adr} (T : Txt K mg A) (G__law_bits : FnOk P w K mg base (CX1 P w) 1 A.a__law_bits A.d__law_bits ["_law_cell"] (sp__law_bits K A)) (G__law_at : FnOk P w K mg base (CX1 P w) 1 A.a__law_at A.d__law_at ["_law_script", "_law_k"] (sp__law_at K A)) (G__law_key : FnOk P w K mg base (CX1 P w) 1 A.a__law_key A.d__law_key ["_law_bits_here", "_law_cell", "_law_others"] (sp__law_key K A)) (G__law_steps : FnOk P w K mg base (CX1 P w) 2 A.a__law_steps A.d__law_steps ["_law_cell", "_law_low", "_law_bits_here"] (sp__law_steps K A)) (G__law_place : FnOk P w K mg base (CX1 P w) 1 A.a__law_place A.d__law_place ["_law_steps_here", "_law_low"] (sp__law_place K A)) (G__law_end : FnOk P w K mg base (CX1 P w) 2 A.a__law_end A.d__law_end ["_law_cell", "_law_bits_here", "_law_key_here", "_law_low"] (sp__law_end K A)) (G_is_slip : FnOk P w K mg base (CX1 P w) 5 A.a_is_slip A.d_is_slip ["bits", "key", "thing"] (sp_is_slip K A)) (G__law_bad : FnOk P w K mg base (CX1 P w) 3 A.a__law_bad A.d__law_bad ["_law_cell", "_law_bits_here", "_law_key_here", "_law_steps_here", "_law_end_here", "_law_low"] (sp__law_bad K A)) (G__law_good : FnOk P w K mg base (CX1 P w) 2 A.a__law_good A.d__law_good ["_law_bits_here", "_law_key_here", "_law_steps_here", "_law_low", "_law_number"] (sp__law_good K A)) : FnOk P w K mg base (CX1 P w) 6 A.a_law A.d_law ["_law_script"] (sp_law K A) :=
  T.f_law.okN sc_law (len_law K A) (fun cdv Ar outer s H vs Q E hr h => ⟨_, tm_law T G__law_bits G__law_at G__law_key G__law_steps G__law_place G__law_end G_is_slip G__law_bad G__law_good cdv Ar outer s H E hr, rd_law T vs H Q E h⟩)
theorem all_mk {l : PySem.W.OpenLaw} {w : World} {K : PySem.W.Frag} {h : Heap} {mg : Str → Option Value} {fa : Addr} (X : K.In h) (G : h.Ns mainGlobals mg) (hfa : mg "law" = some (.ref fa))
    {x__law_bits x__law_at x__law_key x__law_mark x__law_steps x__law_place x__law_text x__law_end x_is_whole x_is_stamp x_is_step x_are_steps x_start x_is_key x_is_value x_is_leaf x_is_fork x_is_end x_is_slip x__law_deep x__law_bad_steps x__law_bad_leaves x__law_bad_forks x__law_bad x__law_good x_law : Addr} {od0 an0 od1 an1 od2 an2 od3 an3 od4 an4 od5 an5 od6 an6 od7 an7 od8 an8 od9 an9 od10 an10 od11 an11 od12 an12 od13 an13 od14 an14 od15 an15 od16 an16 od17 an17 od18 an18 od19 an19 od20 an20 od21 an21 od22 an22 od23 an23 od24 an24 od25 an25 : Option Addr} {sl0 sl1 sl2 sl3 sl4 sl5 sl6 sl7 sl8 sl9 sl10 sl11 sl12 sl13 sl14 sl15 sl16 sl17 sl18 sl19 sl20 sl21 sl22 sl23 sl24 sl25 : Array (Option Value)} {oc0 kV0 dc0 pm0 cd0 ct0 oc1 kV1 dc1 pm1 cd1 ct1 oc2 kV2 dc2 pm2 cd2 ct2 oc3 kV3 dc3 pm3 cd3 ct3 oc4 kV4 dc4 pm4 cd4 ct4 oc5 kV5 dc5 pm5 cd5 ct5 oc6 kV6 dc6 pm6 cd6 ct6 oc7 kV7 dc7 pm7 cd7 ct7 oc8 kV8 dc8 pm8 cd8 ct8 oc9 kV9 dc9 pm9 cd9 ct9 oc10 kV10 dc10 pm10 cd10 ct10 oc11 kV11 dc11 pm11 cd11 ct11 oc12 kV12 dc12 pm12 cd12 ct12 oc13 kV13 dc13 pm13 cd13 ct13 oc14 kV14 dc14 pm14 cd14 ct14 oc15 kV15 dc15 pm15 cd15 ct15 oc16 kV16 dc16 pm16 cd16 ct16 oc17 kV17 dc17 pm17 cd17 ct17 oc18 kV18 dc18 pm18 cd18 ct18 oc19 kV19 dc19 pm19 cd19 ct19 oc20 kV20 dc20 pm20 cd20 ct20 oc21 kV21 dc21 pm21 cd21 ct21 oc22 kV22 dc22 pm22 cd22 ct22 oc23 kV23 dc23 pm23 cd23 ct23 oc24 kV24 dc24 pm24 cd24 ct24 oc25 kV25 dc25 pm25 cd25 ct25 : Value} {tc0 : Tok}
    (a0 : PySem.W.nsIn K mainGlobals "_law_bits" = some (some (.ref x__law_bits))) (l0 : K.lookup x__law_bits = some ⟨oc0, od0, .func (PySem.W.fnOf "_law_bits" "_law_bits" (defArgs s__law_bits) (defBody s__law_bits) (defScope s__law_bits) .none kV0 dc0 pm0 an0 cd0 ct0), sl0⟩) (c0 : PySem.W.codeIn K cd0 "_law_bits" = true) (k0 : PySem.W.keepIn K (.ref x__law_bits) = true)
    (a1 : PySem.W.nsIn K mainGlobals "_law_at" = some (some (.ref x__law_at))) (l1 : K.lookup x__law_at = some ⟨oc1, od1, .func (PySem.W.fnOf "_law_at" "_law_at" (defArgs s__law_at) (defBody s__law_at) (defScope s__law_at) .none kV1 dc1 pm1 an1 cd1 ct1), sl1⟩) (c1 : PySem.W.codeIn K cd1 "_law_at" = true) (k1 : PySem.W.keepIn K (.ref x__law_at) = true)
    (a2 : PySem.W.nsIn K mainGlobals "_law_key" = some (some (.ref x__law_key))) (l2 : K.lookup x__law_key = some ⟨oc2, od2, .func (PySem.W.fnOf "_law_key" "_law_key" (defArgs s__law_key) (defBody s__law_key) (defScope s__law_key) .none kV2 dc2 pm2 an2 cd2 ct2), sl2⟩) (c2 : PySem.W.codeIn K cd2 "_law_key" = true) (k2 : PySem.W.keepIn K (.ref x__law_key) = true)
    (a3 : PySem.W.nsIn K mainGlobals "_law_mark" = some (some (.ref x__law_mark))) (l3 : K.lookup x__law_mark = some ⟨oc3, od3, .func (PySem.W.fnOf "_law_mark" "_law_mark" (defArgs s__law_mark) (defBody s__law_mark) (defScope s__law_mark) .none kV3 dc3 pm3 an3 cd3 ct3), sl3⟩) (c3 : PySem.W.codeIn K cd3 "_law_mark" = true) (k3 : PySem.W.keepIn K (.ref x__law_mark) = true)
    (a4 : PySem.W.nsIn K mainGlobals "_law_steps" = some (some (.ref x__law_steps))) (l4 : K.lookup x__law_steps = some ⟨oc4, od4, .func (PySem.W.fnOf "_law_steps" "_law_steps" (defArgs s__law_steps) (defBody s__law_steps) (defScope s__law_steps) .none kV4 dc4 pm4 an4 cd4 ct4), sl4⟩) (c4 : PySem.W.codeIn K cd4 "_law_steps" = true) (k4 : PySem.W.keepIn K (.ref x__law_steps) = true)
    (a5 : PySem.W.nsIn K mainGlobals "_law_place" = some (some (.ref x__law_place))) (l5 : K.lookup x__law_place = some ⟨oc5, od5, .func (PySem.W.fnOf "_law_place" "_law_place" (defArgs s__law_place) (defBody s__law_place) (defScope s__law_place) .none kV5 dc5 pm5 an5 cd5 ct5), sl5⟩) (c5 : PySem.W.codeIn K cd5 "_law_place" = true) (k5 : PySem.W.keepIn K (.ref x__law_place) = true)
    (a6 : PySem.W.nsIn K mainGlobals "_law_text" = some (some (.ref x__law_text))) (l6 : K.lookup x__law_text = some ⟨oc6, od6, .func (PySem.W.fnOf "_law_text" "_law_text" (defArgs s__law_text) (defBody s__law_text) (defScope s__law_text) .none kV6 dc6 pm6 an6 cd6 ct6), sl6⟩) (c6 : PySem.W.codeIn K cd6 "_law_text" = true) (k6 : PySem.W.keepIn K (.ref x__law_text) = true)
    (a7 : PySem.W.nsIn K mainGlobals "_law_end" = some (some (.ref x__law_end))) (l7 : K.lookup x__law_end = some ⟨oc7, od7, .func (PySem.W.fnOf "_law_end" "_law_end" (defArgs s__law_end) (defBody s__law_end) (defScope s__law_end) .none kV7 dc7 pm7 an7 cd7 ct7), sl7⟩) (c7 : PySem.W.codeIn K cd7 "_law_end" = true) (k7 : PySem.W.keepIn K (.ref x__law_end) = true)
    (a8 : PySem.W.nsIn K mainGlobals "is_whole" = some (some (.ref x_is_whole))) (l8 : K.lookup x_is_whole = some ⟨oc8, od8, .func (PySem.W.fnOf "is_whole" "is_whole" (defArgs s_is_whole) (defBody s_is_whole) (defScope s_is_whole) .none kV8 dc8 pm8 an8 cd8 ct8), sl8⟩) (c8 : PySem.W.codeIn K cd8 "is_whole" = true) (k8 : PySem.W.keepIn K (.ref x_is_whole) = true)
    (a9 : PySem.W.nsIn K mainGlobals "is_stamp" = some (some (.ref x_is_stamp))) (l9 : K.lookup x_is_stamp = some ⟨oc9, od9, .func (PySem.W.fnOf "is_stamp" "is_stamp" (defArgs s_is_stamp) (defBody s_is_stamp) (defScope s_is_stamp) .none kV9 dc9 pm9 an9 cd9 ct9), sl9⟩) (c9 : PySem.W.codeIn K cd9 "is_stamp" = true) (k9 : PySem.W.keepIn K (.ref x_is_stamp) = true)
    (a10 : PySem.W.nsIn K mainGlobals "is_step" = some (some (.ref x_is_step))) (l10 : K.lookup x_is_step = some ⟨oc10, od10, .func (PySem.W.fnOf "is_step" "is_step" (defArgs s_is_step) (defBody s_is_step) (defScope s_is_step) .none kV10 dc10 pm10 an10 cd10 ct10), sl10⟩) (c10 : PySem.W.codeIn K cd10 "is_step" = true) (k10 : PySem.W.keepIn K (.ref x_is_step) = true)
    (a11 : PySem.W.nsIn K mainGlobals "are_steps" = some (some (.ref x_are_steps))) (l11 : K.lookup x_are_steps = some ⟨oc11, od11, .func (PySem.W.fnOf "are_steps" "are_steps" (defArgs s_are_steps) (defBody s_are_steps) (defScope s_are_steps) .none kV11 dc11 pm11 an11 cd11 ct11), sl11⟩) (c11 : PySem.W.codeIn K cd11 "are_steps" = true) (k11 : PySem.W.keepIn K (.ref x_are_steps) = true)
    (a12 : PySem.W.nsIn K mainGlobals "start" = some (some (.ref x_start))) (l12 : K.lookup x_start = some ⟨oc12, od12, .func (PySem.W.fnOf "start" "start" (defArgs s_start) (defBody s_start) (defScope s_start) .none kV12 dc12 pm12 an12 cd12 ct12), sl12⟩) (c12 : PySem.W.codeIn K cd12 "start" = true) (k12 : PySem.W.keepIn K (.ref x_start) = true)
    (a13 : PySem.W.nsIn K mainGlobals "is_key" = some (some (.ref x_is_key))) (l13 : K.lookup x_is_key = some ⟨oc13, od13, .func (PySem.W.fnOf "is_key" "is_key" (defArgs s_is_key) (defBody s_is_key) (defScope s_is_key) .none kV13 dc13 pm13 an13 cd13 ct13), sl13⟩) (c13 : PySem.W.codeIn K cd13 "is_key" = true) (k13 : PySem.W.keepIn K (.ref x_is_key) = true)
    (a14 : PySem.W.nsIn K mainGlobals "is_value" = some (some (.ref x_is_value))) (l14 : K.lookup x_is_value = some ⟨oc14, od14, .func (PySem.W.fnOf "is_value" "is_value" (defArgs s_is_value) (defBody s_is_value) (defScope s_is_value) .none kV14 dc14 pm14 an14 cd14 ct14), sl14⟩) (c14 : PySem.W.codeIn K cd14 "is_value" = true) (k14 : PySem.W.keepIn K (.ref x_is_value) = true)
    (a15 : PySem.W.nsIn K mainGlobals "is_leaf" = some (some (.ref x_is_leaf))) (l15 : K.lookup x_is_leaf = some ⟨oc15, od15, .func (PySem.W.fnOf "is_leaf" "is_leaf" (defArgs s_is_leaf) (defBody s_is_leaf) (defScope s_is_leaf) .none kV15 dc15 pm15 an15 cd15 ct15), sl15⟩) (c15 : PySem.W.codeIn K cd15 "is_leaf" = true) (k15 : PySem.W.keepIn K (.ref x_is_leaf) = true)
    (a16 : PySem.W.nsIn K mainGlobals "is_fork" = some (some (.ref x_is_fork))) (l16 : K.lookup x_is_fork = some ⟨oc16, od16, .func (PySem.W.fnOf "is_fork" "is_fork" (defArgs s_is_fork) (defBody s_is_fork) (defScope s_is_fork) .none kV16 dc16 pm16 an16 cd16 ct16), sl16⟩) (c16 : PySem.W.codeIn K cd16 "is_fork" = true) (k16 : PySem.W.keepIn K (.ref x_is_fork) = true)
    (a17 : PySem.W.nsIn K mainGlobals "is_end" = some (some (.ref x_is_end))) (l17 : K.lookup x_is_end = some ⟨oc17, od17, .func (PySem.W.fnOf "is_end" "is_end" (defArgs s_is_end) (defBody s_is_end) (defScope s_is_end) .none kV17 dc17 pm17 an17 cd17 ct17), sl17⟩) (c17 : PySem.W.codeIn K cd17 "is_end" = true) (k17 : PySem.W.keepIn K (.ref x_is_end) = true)
    (a18 : PySem.W.nsIn K mainGlobals "is_slip" = some (some (.ref x_is_slip))) (l18 : K.lookup x_is_slip = some ⟨oc18, od18, .func (PySem.W.fnOf "is_slip" "is_slip" (defArgs s_is_slip) (defBody s_is_slip) (defScope s_is_slip) .none kV18 dc18 pm18 an18 cd18 ct18), sl18⟩) (c18 : PySem.W.codeIn K cd18 "is_slip" = true) (k18 : PySem.W.keepIn K (.ref x_is_slip) = true)
    (a19 : PySem.W.nsIn K mainGlobals "_law_deep" = some (some (.ref x__law_deep))) (l19 : K.lookup x__law_deep = some ⟨oc19, od19, .func (PySem.W.fnOf "_law_deep" "_law_deep" (defArgs s__law_deep) (defBody s__law_deep) (defScope s__law_deep) .none kV19 dc19 pm19 an19 cd19 ct19), sl19⟩) (c19 : PySem.W.codeIn K cd19 "_law_deep" = true) (k19 : PySem.W.keepIn K (.ref x__law_deep) = true)
    (a20 : PySem.W.nsIn K mainGlobals "_law_bad_steps" = some (some (.ref x__law_bad_steps))) (l20 : K.lookup x__law_bad_steps = some ⟨oc20, od20, .func (PySem.W.fnOf "_law_bad_steps" "_law_bad_steps" (defArgs s__law_bad_steps) (defBody s__law_bad_steps) (defScope s__law_bad_steps) .none kV20 dc20 pm20 an20 cd20 ct20), sl20⟩) (c20 : PySem.W.codeIn K cd20 "_law_bad_steps" = true) (k20 : PySem.W.keepIn K (.ref x__law_bad_steps) = true)
    (a21 : PySem.W.nsIn K mainGlobals "_law_bad_leaves" = some (some (.ref x__law_bad_leaves))) (l21 : K.lookup x__law_bad_leaves = some ⟨oc21, od21, .func (PySem.W.fnOf "_law_bad_leaves" "_law_bad_leaves" (defArgs s__law_bad_leaves) (defBody s__law_bad_leaves) (defScope s__law_bad_leaves) .none kV21 dc21 pm21 an21 cd21 ct21), sl21⟩) (c21 : PySem.W.codeIn K cd21 "_law_bad_leaves" = true) (k21 : PySem.W.keepIn K (.ref x__law_bad_leaves) = true)
    (a22 : PySem.W.nsIn K mainGlobals "_law_bad_forks" = some (some (.ref x__law_bad_forks))) (l22 : K.lookup x__law_bad_forks = some ⟨oc22, od22, .func (PySem.W.fnOf "_law_bad_forks" "_law_bad_forks" (defArgs s__law_bad_forks) (defBody s__law_bad_forks) (defScope s__law_bad_forks) .none kV22 dc22 pm22 an22 cd22 ct22), sl22⟩) (c22 : PySem.W.codeIn K cd22 "_law_bad_forks" = true) (k22 : PySem.W.keepIn K (.ref x__law_bad_forks) = true)
    (a23 : PySem.W.nsIn K mainGlobals "_law_bad" = some (some (.ref x__law_bad))) (l23 : K.lookup x__law_bad = some ⟨oc23, od23, .func (PySem.W.fnOf "_law_bad" "_law_bad" (defArgs s__law_bad) (defBody s__law_bad) (defScope s__law_bad) .none kV23 dc23 pm23 an23 cd23 ct23), sl23⟩) (c23 : PySem.W.codeIn K cd23 "_law_bad" = true) (k23 : PySem.W.keepIn K (.ref x__law_bad) = true)
    (a24 : PySem.W.nsIn K mainGlobals "_law_good" = some (some (.ref x__law_good))) (l24 : K.lookup x__law_good = some ⟨oc24, od24, .func (PySem.W.fnOf "_law_good" "_law_good" (defArgs s__law_good) (defBody s__law_good) (defScope s__law_good) .none kV24 dc24 pm24 an24 cd24 ct24), sl24⟩) (c24 : PySem.W.codeIn K cd24 "_law_good" = true) (k24 : PySem.W.keepIn K (.ref x__law_good) = true)
    (a25 : PySem.W.nsIn K mainGlobals "law" = some (some (.ref x_law))) (l25 : K.lookup x_law = some ⟨oc25, od25, .func (PySem.W.fnOf "law" "law" (defArgs s_law) (defBody s_law) (defScope s_law) .none kV25 dc25 pm25 an25 cd25 ct25), sl25⟩) (c25 : PySem.W.codeIn K cd25 "law" = true) (k25 : PySem.W.keepIn K (.ref x_law) = true)
    (z_bool : PySem.W.nsIn K mainGlobals "bool" = some none)
    (z_int : PySem.W.nsIn K mainGlobals "int" = some none)
    (z_isinstance : PySem.W.nsIn K mainGlobals "isinstance" = some none)
    (z_len : PySem.W.nsIn K mainGlobals "len" = some none)
    (z_list : PySem.W.nsIn K mainGlobals "list" = some none)
    (z_range : PySem.W.nsIn K mainGlobals "range" = some none)
    (z_str : PySem.W.nsIn K mainGlobals "str" = some none)
    (z_tuple : PySem.W.nsIn K mainGlobals "tuple" = some none)
    (c_MOST_SIGNS : PySem.W.nsIn K mainGlobals "MOST_SIGNS" = some (some (.int 60 tc0)))
    (nt : PySem.W.noTabs K = true)
    (td : tabsApart K [] = true) :
    ∃ (fd : FuncData) (tabs : List (Addr × Addr)) (sp : Sp), (∀ (s : Shared) (v : Value), BindsTo s fd ⟨[v], []⟩ [("_law_script", v)]) ∧ PySem.W.noTabs K = true ∧ (∀ t ∈ tabs, ∃ y ∈ ([] : List Str), PySem.W.tabIn K y = some t) ∧
      (∀ base : Heap, K.In base → base.Ns mainGlobals mg → BM mg base → (∀ t ∈ tabs, PySem.W.CodeHd base t.1 t.2) → FnOk l.prog w K mg base (CX1 l.prog w) 6 fa fd ["_law_script"] sp) ∧
      ∀ (H : Hp) (a : Addr) (ns : List Int), ns.length ≤ 63 → (∀ t ∈ tabs, H t.2 = some (.tbl #[])) → SqL K H a (ns.map V.int) → sp [.ref a] H (fun v _ => v = .bl true) fun _ _ _ => False := by
  have e := hfa.symm.trans (PySem.W.mg_of X G a25)
  cases e
  have tdn : ([] : List Addr).Nodup := apart_of (by unfold tabsApart at td; simp only [List.map_cons, List.map_nil, Option.map_some] at td; exact of_decide_eq_true td)
  have T : Txt K mg ⟨x__law_bits, PySem.W.fnOf "_law_bits" "_law_bits" (defArgs s__law_bits) (defBody s__law_bits) (defScope s__law_bits) .none kV0 dc0 pm0 an0 cd0 ct0, x__law_at, PySem.W.fnOf "_law_at" "_law_at" (defArgs s__law_at) (defBody s__law_at) (defScope s__law_at) .none kV1 dc1 pm1 an1 cd1 ct1, x__law_key, PySem.W.fnOf "_law_key" "_law_key" (defArgs s__law_key) (defBody s__law_key) (defScope s__law_key) .none kV2 dc2 pm2 an2 cd2 ct2, x__law_mark, PySem.W.fnOf "_law_mark" "_law_mark" (defArgs s__law_mark) (defBody s__law_mark) (defScope s__law_mark) .none kV3 dc3 pm3 an3 cd3 ct3, x__law_steps, PySem.W.fnOf "_law_steps" "_law_steps" (defArgs s__law_steps) (defBody s__law_steps) (defScope s__law_steps) .none kV4 dc4 pm4 an4 cd4 ct4, x__law_place, PySem.W.fnOf "_law_place" "_law_place" (defArgs s__law_place) (defBody s__law_place) (defScope s__law_place) .none kV5 dc5 pm5 an5 cd5 ct5, x__law_text, PySem.W.fnOf "_law_text" "_law_text" (defArgs s__law_text) (defBody s__law_text) (defScope s__law_text) .none kV6 dc6 pm6 an6 cd6 ct6, x__law_end, PySem.W.fnOf "_law_end" "_law_end" (defArgs s__law_end) (defBody s__law_end) (defScope s__law_end) .none kV7 dc7 pm7 an7 cd7 ct7, x_is_whole, PySem.W.fnOf "is_whole" "is_whole" (defArgs s_is_whole) (defBody s_is_whole) (defScope s_is_whole) .none kV8 dc8 pm8 an8 cd8 ct8, x_is_stamp, PySem.W.fnOf "is_stamp" "is_stamp" (defArgs s_is_stamp) (defBody s_is_stamp) (defScope s_is_stamp) .none kV9 dc9 pm9 an9 cd9 ct9, x_is_step, PySem.W.fnOf "is_step" "is_step" (defArgs s_is_step) (defBody s_is_step) (defScope s_is_step) .none kV10 dc10 pm10 an10 cd10 ct10, x_are_steps, PySem.W.fnOf "are_steps" "are_steps" (defArgs s_are_steps) (defBody s_are_steps) (defScope s_are_steps) .none kV11 dc11 pm11 an11 cd11 ct11, x_start, PySem.W.fnOf "start" "start" (defArgs s_start) (defBody s_start) (defScope s_start) .none kV12 dc12 pm12 an12 cd12 ct12, x_is_key, PySem.W.fnOf "is_key" "is_key" (defArgs s_is_key) (defBody s_is_key) (defScope s_is_key) .none kV13 dc13 pm13 an13 cd13 ct13, x_is_value, PySem.W.fnOf "is_value" "is_value" (defArgs s_is_value) (defBody s_is_value) (defScope s_is_value) .none kV14 dc14 pm14 an14 cd14 ct14, x_is_leaf, PySem.W.fnOf "is_leaf" "is_leaf" (defArgs s_is_leaf) (defBody s_is_leaf) (defScope s_is_leaf) .none kV15 dc15 pm15 an15 cd15 ct15, x_is_fork, PySem.W.fnOf "is_fork" "is_fork" (defArgs s_is_fork) (defBody s_is_fork) (defScope s_is_fork) .none kV16 dc16 pm16 an16 cd16 ct16, x_is_end, PySem.W.fnOf "is_end" "is_end" (defArgs s_is_end) (defBody s_is_end) (defScope s_is_end) .none kV17 dc17 pm17 an17 cd17 ct17, x_is_slip, PySem.W.fnOf "is_slip" "is_slip" (defArgs s_is_slip) (defBody s_is_slip) (defScope s_is_slip) .none kV18 dc18 pm18 an18 cd18 ct18, x__law_deep, PySem.W.fnOf "_law_deep" "_law_deep" (defArgs s__law_deep) (defBody s__law_deep) (defScope s__law_deep) .none kV19 dc19 pm19 an19 cd19 ct19, x__law_bad_steps, PySem.W.fnOf "_law_bad_steps" "_law_bad_steps" (defArgs s__law_bad_steps) (defBody s__law_bad_steps) (defScope s__law_bad_steps) .none kV20 dc20 pm20 an20 cd20 ct20, x__law_bad_leaves, PySem.W.fnOf "_law_bad_leaves" "_law_bad_leaves" (defArgs s__law_bad_leaves) (defBody s__law_bad_leaves) (defScope s__law_bad_leaves) .none kV21 dc21 pm21 an21 cd21 ct21, x__law_bad_forks, PySem.W.fnOf "_law_bad_forks" "_law_bad_forks" (defArgs s__law_bad_forks) (defBody s__law_bad_forks) (defScope s__law_bad_forks) .none kV22 dc22 pm22 an22 cd22 ct22, x__law_bad, PySem.W.fnOf "_law_bad" "_law_bad" (defArgs s__law_bad) (defBody s__law_bad) (defScope s__law_bad) .none kV23 dc23 pm23 an23 cd23 ct23, x__law_good, PySem.W.fnOf "_law_good" "_law_good" (defArgs s__law_good) (defBody s__law_good) (defScope s__law_good) .none kV24 dc24 pm24 an24 cd24 ct24, fa, PySem.W.fnOf "law" "law" (defArgs s_law) (defBody s_law) (defScope s_law) .none kV25 dc25 pm25 an25 cd25 ct25⟩ := ⟨fun_mk (st := s__law_bits) l0 c0 k0, PySem.W.mg_of X G a0, (fun_mk (st := s__law_bits) l0 c0 k0).binds (ps := ["_law_cell"]) fun _ _ _ _ _ _ us hl => match us, hl with | [_], _ => rfl, fun_mk (st := s__law_at) l1 c1 k1, PySem.W.mg_of X G a1, (fun_mk (st := s__law_at) l1 c1 k1).binds (ps := ["_law_script", "_law_k"]) fun _ _ _ _ _ _ us hl => match us, hl with | [_, _], _ => rfl, fun_mk (st := s__law_key) l2 c2 k2, PySem.W.mg_of X G a2, (fun_mk (st := s__law_key) l2 c2 k2).binds (ps := ["_law_bits_here", "_law_cell", "_law_others"]) fun _ _ _ _ _ _ us hl => match us, hl with | [_, _, _], _ => rfl, fun_mk (st := s__law_mark) l3 c3 k3, PySem.W.mg_of X G a3, (fun_mk (st := s__law_mark) l3 c3 k3).binds (ps := ["_law_number"]) fun _ _ _ _ _ _ us hl => match us, hl with | [_], _ => rfl, fun_mk (st := s__law_steps) l4 c4 k4, PySem.W.mg_of X G a4, (fun_mk (st := s__law_steps) l4 c4 k4).binds (ps := ["_law_cell", "_law_low", "_law_bits_here"]) fun _ _ _ _ _ _ us hl => match us, hl with | [_, _, _], _ => rfl, fun_mk (st := s__law_place) l5 c5 k5, PySem.W.mg_of X G a5, (fun_mk (st := s__law_place) l5 c5 k5).binds (ps := ["_law_steps_here", "_law_low"]) fun _ _ _ _ _ _ us hl => match us, hl with | [_, _], _ => rfl, fun_mk (st := s__law_text) l6 c6 k6, PySem.W.mg_of X G a6, (fun_mk (st := s__law_text) l6 c6 k6).binds (ps := ["_law_cell"]) fun _ _ _ _ _ _ us hl => match us, hl with | [_], _ => rfl, fun_mk (st := s__law_end) l7 c7 k7, PySem.W.mg_of X G a7, (fun_mk (st := s__law_end) l7 c7 k7).binds (ps := ["_law_cell", "_law_bits_here", "_law_key_here", "_law_low"]) fun _ _ _ _ _ _ us hl => match us, hl with | [_, _, _, _], _ => rfl, fun_mk (st := s_is_whole) l8 c8 k8, PySem.W.mg_of X G a8, (fun_mk (st := s_is_whole) l8 c8 k8).binds (ps := ["thing"]) fun _ _ _ _ _ _ us hl => match us, hl with | [_], _ => rfl, fun_mk (st := s_is_stamp) l9 c9 k9, PySem.W.mg_of X G a9, (fun_mk (st := s_is_stamp) l9 c9 k9).binds (ps := ["thing"]) fun _ _ _ _ _ _ us hl => match us, hl with | [_], _ => rfl, fun_mk (st := s_is_step) l10 c10 k10, PySem.W.mg_of X G a10, (fun_mk (st := s_is_step) l10 c10 k10).binds (ps := ["bits", "least", "thing"]) fun _ _ _ _ _ _ us hl => match us, hl with | [_, _, _], _ => rfl, fun_mk (st := s_are_steps) l11 c11 k11, PySem.W.mg_of X G a11, (fun_mk (st := s_are_steps) l11 c11 k11).binds (ps := ["bits", "thing"]) fun _ _ _ _ _ _ us hl => match us, hl with | [_, _], _ => rfl, fun_mk (st := s_start) l12 c12 k12, PySem.W.mg_of X G a12, (fun_mk (st := s_start) l12 c12 k12).binds (ps := ["bits", "key", "depth"]) fun _ _ _ _ _ _ us hl => match us, hl with | [_, _, _], _ => rfl, fun_mk (st := s_is_key) l13 c13 k13, PySem.W.mg_of X G a13, (fun_mk (st := s_is_key) l13 c13 k13).binds (ps := ["bits", "thing"]) fun _ _ _ _ _ _ us hl => match us, hl with | [_, _], _ => rfl, fun_mk (st := s_is_value) l14 c14 k14, PySem.W.mg_of X G a14, (fun_mk (st := s_is_value) l14 c14 k14).binds (ps := ["thing"]) fun _ _ _ _ _ _ us hl => match us, hl with | [_], _ => rfl, fun_mk (st := s_is_leaf) l15 c15 k15, PySem.W.mg_of X G a15, (fun_mk (st := s_is_leaf) l15 c15 k15).binds (ps := ["bits", "depth", "begin", "thing"]) fun _ _ _ _ _ _ us hl => match us, hl with | [_, _, _, _], _ => rfl, fun_mk (st := s_is_fork) l16 c16 k16, PySem.W.mg_of X G a16, (fun_mk (st := s_is_fork) l16 c16 k16).binds (ps := ["bits", "depth", "begin", "thing"]) fun _ _ _ _ _ _ us hl => match us, hl with | [_, _, _, _], _ => rfl, fun_mk (st := s_is_end) l17 c17 k17, PySem.W.mg_of X G a17, (fun_mk (st := s_is_end) l17 c17 k17).binds (ps := ["bits", "key", "place", "thing"]) fun _ _ _ _ _ _ us hl => match us, hl with | [_, _, _, _], _ => rfl, fun_mk (st := s_is_slip) l18 c18 k18, PySem.W.mg_of X G a18, (fun_mk (st := s_is_slip) l18 c18 k18).binds (ps := ["bits", "key", "thing"]) fun _ _ _ _ _ _ us hl => match us, hl with | [_, _, _], _ => rfl, fun_mk (st := s__law_deep) l19 c19 k19, PySem.W.mg_of X G a19, (fun_mk (st := s__law_deep) l19 c19 k19).binds (ps := ["_law_thing"]) fun _ _ _ _ _ _ us hl => match us, hl with | [_], _ => rfl, fun_mk (st := s__law_bad_steps) l20 c20 k20, PySem.W.mg_of X G a20, (fun_mk (st := s__law_bad_steps) l20 c20 k20).binds (ps := ["_law_cell", "_law_steps_here", "_law_bits_here"]) fun _ _ _ _ _ _ us hl => match us, hl with | [_, _, _], _ => rfl, fun_mk (st := s__law_bad_leaves) l21 c21 k21, PySem.W.mg_of X G a21, (fun_mk (st := s__law_bad_leaves) l21 c21 k21).binds (ps := ["_law_bits_here", "_law_key_here", "_law_low", "_law_number"]) fun _ _ _ _ _ _ us hl => match us, hl with | [_, _, _, _], _ => rfl, fun_mk (st := s__law_bad_forks) l22 c22 k22, PySem.W.mg_of X G a22, (fun_mk (st := s__law_bad_forks) l22 c22 k22).binds (ps := ["_law_bits_here", "_law_key_here", "_law_low", "_law_number"]) fun _ _ _ _ _ _ us hl => match us, hl with | [_, _, _, _], _ => rfl, fun_mk (st := s__law_bad) l23 c23 k23, PySem.W.mg_of X G a23, (fun_mk (st := s__law_bad) l23 c23 k23).binds (ps := ["_law_cell", "_law_bits_here", "_law_key_here", "_law_steps_here", "_law_end_here", "_law_low"]) fun _ _ _ _ _ _ us hl => match us, hl with | [_, _, _, _, _, _], _ => rfl, fun_mk (st := s__law_good) l24 c24 k24, PySem.W.mg_of X G a24, (fun_mk (st := s__law_good) l24 c24 k24).binds (ps := ["_law_bits_here", "_law_key_here", "_law_steps_here", "_law_low", "_law_number"]) fun _ _ _ _ _ _ us hl => match us, hl with | [_, _, _, _, _], _ => rfl, fun_mk (st := s_law) l25 c25 k25, PySem.W.mg_of X G a25, (fun_mk (st := s_law) l25 c25 k25).binds (ps := ["_law_script"]) fun _ _ _ _ _ _ us hl => match us, hl with | [_], _ => rfl, PySem.W.mg_none_of X G z_bool, PySem.W.mg_none_of X G z_int, PySem.W.mg_none_of X G z_isinstance, PySem.W.mg_none_of X G z_len, PySem.W.mg_none_of X G z_list, PySem.W.mg_none_of X G z_range, PySem.W.mg_none_of X G z_str, PySem.W.mg_none_of X G z_tuple, ⟨_, PySem.W.mg_of X G c_MOST_SIGNS⟩⟩
  refine ⟨PySem.W.fnOf "law" "law" (defArgs s_law) (defBody s_law) (defScope s_law) .none kV25 dc25 pm25 an25 cd25 ct25, [], sp_law K ⟨x__law_bits, PySem.W.fnOf "_law_bits" "_law_bits" (defArgs s__law_bits) (defBody s__law_bits) (defScope s__law_bits) .none kV0 dc0 pm0 an0 cd0 ct0, x__law_at, PySem.W.fnOf "_law_at" "_law_at" (defArgs s__law_at) (defBody s__law_at) (defScope s__law_at) .none kV1 dc1 pm1 an1 cd1 ct1, x__law_key, PySem.W.fnOf "_law_key" "_law_key" (defArgs s__law_key) (defBody s__law_key) (defScope s__law_key) .none kV2 dc2 pm2 an2 cd2 ct2, x__law_mark, PySem.W.fnOf "_law_mark" "_law_mark" (defArgs s__law_mark) (defBody s__law_mark) (defScope s__law_mark) .none kV3 dc3 pm3 an3 cd3 ct3, x__law_steps, PySem.W.fnOf "_law_steps" "_law_steps" (defArgs s__law_steps) (defBody s__law_steps) (defScope s__law_steps) .none kV4 dc4 pm4 an4 cd4 ct4, x__law_place, PySem.W.fnOf "_law_place" "_law_place" (defArgs s__law_place) (defBody s__law_place) (defScope s__law_place) .none kV5 dc5 pm5 an5 cd5 ct5, x__law_text, PySem.W.fnOf "_law_text" "_law_text" (defArgs s__law_text) (defBody s__law_text) (defScope s__law_text) .none kV6 dc6 pm6 an6 cd6 ct6, x__law_end, PySem.W.fnOf "_law_end" "_law_end" (defArgs s__law_end) (defBody s__law_end) (defScope s__law_end) .none kV7 dc7 pm7 an7 cd7 ct7, x_is_whole, PySem.W.fnOf "is_whole" "is_whole" (defArgs s_is_whole) (defBody s_is_whole) (defScope s_is_whole) .none kV8 dc8 pm8 an8 cd8 ct8, x_is_stamp, PySem.W.fnOf "is_stamp" "is_stamp" (defArgs s_is_stamp) (defBody s_is_stamp) (defScope s_is_stamp) .none kV9 dc9 pm9 an9 cd9 ct9, x_is_step, PySem.W.fnOf "is_step" "is_step" (defArgs s_is_step) (defBody s_is_step) (defScope s_is_step) .none kV10 dc10 pm10 an10 cd10 ct10, x_are_steps, PySem.W.fnOf "are_steps" "are_steps" (defArgs s_are_steps) (defBody s_are_steps) (defScope s_are_steps) .none kV11 dc11 pm11 an11 cd11 ct11, x_start, PySem.W.fnOf "start" "start" (defArgs s_start) (defBody s_start) (defScope s_start) .none kV12 dc12 pm12 an12 cd12 ct12, x_is_key, PySem.W.fnOf "is_key" "is_key" (defArgs s_is_key) (defBody s_is_key) (defScope s_is_key) .none kV13 dc13 pm13 an13 cd13 ct13, x_is_value, PySem.W.fnOf "is_value" "is_value" (defArgs s_is_value) (defBody s_is_value) (defScope s_is_value) .none kV14 dc14 pm14 an14 cd14 ct14, x_is_leaf, PySem.W.fnOf "is_leaf" "is_leaf" (defArgs s_is_leaf) (defBody s_is_leaf) (defScope s_is_leaf) .none kV15 dc15 pm15 an15 cd15 ct15, x_is_fork, PySem.W.fnOf "is_fork" "is_fork" (defArgs s_is_fork) (defBody s_is_fork) (defScope s_is_fork) .none kV16 dc16 pm16 an16 cd16 ct16, x_is_end, PySem.W.fnOf "is_end" "is_end" (defArgs s_is_end) (defBody s_is_end) (defScope s_is_end) .none kV17 dc17 pm17 an17 cd17 ct17, x_is_slip, PySem.W.fnOf "is_slip" "is_slip" (defArgs s_is_slip) (defBody s_is_slip) (defScope s_is_slip) .none kV18 dc18 pm18 an18 cd18 ct18, x__law_deep, PySem.W.fnOf "_law_deep" "_law_deep" (defArgs s__law_deep) (defBody s__law_deep) (defScope s__law_deep) .none kV19 dc19 pm19 an19 cd19 ct19, x__law_bad_steps, PySem.W.fnOf "_law_bad_steps" "_law_bad_steps" (defArgs s__law_bad_steps) (defBody s__law_bad_steps) (defScope s__law_bad_steps) .none kV20 dc20 pm20 an20 cd20 ct20, x__law_bad_leaves, PySem.W.fnOf "_law_bad_leaves" "_law_bad_leaves" (defArgs s__law_bad_leaves) (defBody s__law_bad_leaves) (defScope s__law_bad_leaves) .none kV21 dc21 pm21 an21 cd21 ct21, x__law_bad_forks, PySem.W.fnOf "_law_bad_forks" "_law_bad_forks" (defArgs s__law_bad_forks) (defBody s__law_bad_forks) (defScope s__law_bad_forks) .none kV22 dc22 pm22 an22 cd22 ct22, x__law_bad, PySem.W.fnOf "_law_bad" "_law_bad" (defArgs s__law_bad) (defBody s__law_bad) (defScope s__law_bad) .none kV23 dc23 pm23 an23 cd23 ct23, x__law_good, PySem.W.fnOf "_law_good" "_law_good" (defArgs s__law_good) (defBody s__law_good) (defScope s__law_good) .none kV24 dc24 pm24 an24 cd24 ct24, fa, PySem.W.fnOf "law" "law" (defArgs s_law) (defBody s_law) (defScope s_law) .none kV25 dc25 pm25 an25 cd25 ct25⟩, fun s v => .of_eq rfl, nt, ?_, fun base _ _ B C => ?_, fun H a ns hl hO hS => ⟨a, ns, rfl, hS, hl, tdn, fun _ => rfl⟩⟩
  · intro t ht
    cases ht
  have G__law_bits := ok__law_bits (P := l.prog) (w := w) (base := base) T 
  have G__law_at := ok__law_at (P := l.prog) (w := w) (base := base) T 
  have G__law_key := ok__law_key (P := l.prog) (w := w) (base := base) T 
  have G__law_mark := ok__law_mark (P := l.prog) (w := w) (base := base) T 
  have G__law_steps := ok__law_steps (P := l.prog) (w := w) (base := base) T G__law_mark
  have G__law_place := ok__law_place (P := l.prog) (w := w) (base := base) T 
  have G__law_text := ok__law_text (P := l.prog) (w := w) (base := base) T 
  have G__law_end := ok__law_end (P := l.prog) (w := w) (base := base) T G__law_mark G__law_text
  have G_is_whole := ok_is_whole (P := l.prog) (w := w) (base := base) T 
  have G_is_stamp := ok_is_stamp (P := l.prog) (w := w) (base := base) T G_is_whole
  have G_is_step := ok_is_step (P := l.prog) (w := w) (base := base) T G_is_whole G_is_stamp
  have G_are_steps := ok_are_steps (P := l.prog) (w := w) (base := base) T G_is_step
  have G_start := ok_start (P := l.prog) (w := w) (base := base) T 
  have G_is_key := ok_is_key (P := l.prog) (w := w) (base := base) T G_is_whole
  have G_is_value := ok_is_value (P := l.prog) (w := w) (base := base) T 
  have G_is_leaf := ok_is_leaf (P := l.prog) (w := w) (base := base) T G_is_key G_is_value G_start
  have G_is_fork := ok_is_fork (P := l.prog) (w := w) (base := base) T G_is_whole
  have G_is_end := ok_is_end (P := l.prog) (w := w) (base := base) T G_start G_is_leaf G_is_fork G_is_stamp
  have G_is_slip := ok_is_slip (P := l.prog) (w := w) (base := base) T G_are_steps G_is_end
  have G__law_deep := ok__law_deep (P := l.prog) (w := w) (base := base) T 
  have G__law_bad_steps := ok__law_bad_steps (P := l.prog) (w := w) (base := base) T G__law_deep
  have G__law_bad_leaves := ok__law_bad_leaves (P := l.prog) (w := w) (base := base) T G__law_deep
  have G__law_bad_forks := ok__law_bad_forks (P := l.prog) (w := w) (base := base) T 
  have G__law_bad := ok__law_bad (P := l.prog) (w := w) (base := base) T G__law_bad_steps G__law_bad_leaves G__law_bad_forks G__law_deep
  have G__law_good := ok__law_good (P := l.prog) (w := w) (base := base) T G__law_text
  have G_law := ok_law (P := l.prog) (w := w) (base := base) T G__law_bits G__law_at G__law_key G__law_steps G__law_place G__law_end G_is_slip G__law_bad G__law_good
  exact G_law
theorem walk {l : PySem.W.OpenLaw} {q : Program} {loose : List Str} {XP : (Str → Option Value) → Heap → Prop} {YP : World → Heap → Prop} {d : DefRec} {K : Params → PySem.W.Frag} (hn : l.most = some 63) (hdf : d.params.defaults = [])
    (hY : ∀ (w : World) (h : Heap), YP w h → (K w.params).In h) (hq : ∀ y ∈ ([] : List Str), ((PyProof.Rows.recsOf q).find? fun e => e.name == y).isSome = true)
    (F : ∀ (w : World) (mg : Str → Option Value) (fa : Addr) (h : Heap), (K w.params).In h → h.Ns mainGlobals mg → mg d.name = some (.ref fa) →
      ∃ (fd : FuncData) (tabs : List (Addr × Addr)) (sp : Sp), (∀ (s : Shared) (u : Value), BindsTo s fd ⟨[u], []⟩ [("_law_script", u)]) ∧ PySem.W.noTabs (K w.params) = true ∧ (∀ t ∈ tabs, ∃ y ∈ ([] : List Str), PySem.W.tabIn (K w.params) y = some t) ∧
        (∀ base : Heap, (K w.params).In base → base.Ns mainGlobals mg → BM mg base → (∀ t ∈ tabs, PySem.W.CodeHd base t.1 t.2) → FnOk l.prog w (K w.params) mg base (CX1 l.prog w) 6 fa fd ["_law_script"] sp) ∧
        ∀ (H : Hp) (a : Addr) (ns : List Int), ns.length ≤ 63 → (∀ t ∈ tabs, H t.2 = some (.tbl #[])) → SqL (K w.params) H a (ns.map V.int) → sp [.ref a] H (fun v _ => v = .bl true) fun _ _ _ => False) :
    PySem.W.WalkO q loose XP YP l.row.toRowW d [] (fun f vs => PySem.call f vs) :=
  L2.walk_ofT (n := 63) (k := 6) (x := "_law_script") (CX := fun w => CX1 l.prog w) hn (by decide) hdf ⟨rfl, by decide, by decide⟩ hY hq F fun _ _ _ _ _ ⟨_, _, _, _, _, z⟩ => z
end Rs
open PySem PySem.W PyProof.Rows
set_option maxRecDepth 100000 in
set_option maxHeartbeats 0 in
theorem PySem.Challenge.cw_rootstamp_k21_what_is_a_slip_holds : PySem.Challenge.rw_rootstamp_k21_what_is_a_slip.Holds := by
  w_on; o_law; k_head; (case hw => w_witness2)
  k_fill
  refine Rs.walk (l := PySem.Challenge.rw_rootstamp_k21_what_is_a_slip) rfl rfl (fun w h Y => by first | exact PySem.W.kIn_of Y | exact PySem.W.km_in_of Y) (by decide +kernel) ?F
  case F =>
    intro w mg fa h KX G hmg
    refine' Rs.all_mk KX G hmg ?a0 ?l0 ?c0 ?k0 ?a1 ?l1 ?c1 ?k1 ?a2 ?l2 ?c2 ?k2 ?a3 ?l3 ?c3 ?k3 ?a4 ?l4 ?c4 ?k4 ?a5 ?l5 ?c5 ?k5 ?a6 ?l6 ?c6 ?k6 ?a7 ?l7 ?c7 ?k7 ?a8 ?l8 ?c8 ?k8 ?a9 ?l9 ?c9 ?k9 ?a10 ?l10 ?c10 ?k10 ?a11 ?l11 ?c11 ?k11 ?a12 ?l12 ?c12 ?k12 ?a13 ?l13 ?c13 ?k13 ?a14 ?l14 ?c14 ?k14 ?a15 ?l15 ?c15 ?k15 ?a16 ?l16 ?c16 ?k16 ?a17 ?l17 ?c17 ?k17 ?a18 ?l18 ?c18 ?k18 ?a19 ?l19 ?c19 ?k19 ?a20 ?l20 ?c20 ?k20 ?a21 ?l21 ?c21 ?k21 ?a22 ?l22 ?c22 ?k22 ?a23 ?l23 ?c23 ?k23 ?a24 ?l24 ?c24 ?k24 ?a25 ?l25 ?c25 ?k25 ?z_bool ?z_int ?z_isinstance ?z_len ?z_list ?z_range ?z_str ?z_tuple ?c_MOST_SIGNS ?nt ?td
    (case a0 => k_is); (case l0 => k_is); (case c0 => k_is); (case k0 => k_is); (case a1 => k_is); (case l1 => k_is)
    (case c1 => k_is); (case k1 => k_is); (case a2 => k_is); (case l2 => k_is); (case c2 => k_is); (case k2 => k_is)
    (case a3 => k_is); (case l3 => k_is); (case c3 => k_is); (case k3 => k_is); (case a4 => k_is); (case l4 => k_is)
    (case c4 => k_is); (case k4 => k_is); (case a5 => k_is); (case l5 => k_is); (case c5 => k_is); (case k5 => k_is)
    (case a6 => k_is); (case l6 => k_is); (case c6 => k_is); (case k6 => k_is); (case a7 => k_is); (case l7 => k_is)
    (case c7 => k_is); (case k7 => k_is); (case a8 => k_is); (case l8 => k_is); (case c8 => k_is); (case k8 => k_is)
    (case a9 => k_is); (case l9 => k_is); (case c9 => k_is); (case k9 => k_is); (case a10 => k_is); (case l10 => k_is)
    (case c10 => k_is); (case k10 => k_is); (case a11 => k_is); (case l11 => k_is); (case c11 => k_is); (case k11 => k_is)
    (case a12 => k_is); (case l12 => k_is); (case c12 => k_is); (case k12 => k_is); (case a13 => k_is); (case l13 => k_is)
    (case c13 => k_is); (case k13 => k_is); (case a14 => k_is); (case l14 => k_is); (case c14 => k_is); (case k14 => k_is)
    (case a15 => k_is); (case l15 => k_is); (case c15 => k_is); (case k15 => k_is); (case a16 => k_is); (case l16 => k_is)
    (case c16 => k_is); (case k16 => k_is); (case a17 => k_is); (case l17 => k_is); (case c17 => k_is); (case k17 => k_is)
    (case a18 => k_is); (case l18 => k_is); (case c18 => k_is); (case k18 => k_is); (case a19 => k_is); (case l19 => k_is)
    (case c19 => k_is); (case k19 => k_is); (case a20 => k_is); (case l20 => k_is); (case c20 => k_is); (case k20 => k_is)
    (case a21 => k_is); (case l21 => k_is); (case c21 => k_is); (case k21 => k_is); (case a22 => k_is); (case l22 => k_is)
    (case c22 => k_is); (case k22 => k_is); (case a23 => k_is); (case l23 => k_is); (case c23 => k_is); (case k23 => k_is)
    (case a24 => k_is); (case l24 => k_is); (case c24 => k_is); (case k24 => k_is); (case a25 => k_is); (case l25 => k_is)
    (case c25 => k_is); (case k25 => k_is); (case z_bool => k_is); (case z_int => k_is); (case z_isinstance => k_is); (case z_len => k_is)
    (case z_list => k_is); (case z_range => k_is); (case z_str => k_is); (case z_tuple => k_is); (case c_MOST_SIGNS => k_is); (case nt => kernel_rfl)
    (case td => kernel_rfl)


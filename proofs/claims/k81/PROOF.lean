import PyProof.Rows.All
import Wide.All
import OpenK.AllK
import Wide.FinOn
import Lean
import PyProof.EqAt
import PyProof.EqKinds
import PyProof.TupleCall
import PyProof.P3In
import KE.KDictLaws
import KE.KTabLook
import PySem.Challenge.RW_rootstamp_k81_rows_read
set_option Elab.async false
set_option linter.all false
set_option maxRecDepth 100000
set_option maxHeartbeats 4000000
namespace L2
open PySem PySem.Spec PyProof.Rows

abbrev Key := Sum Int Str
def keyIs : Key → Value → Bool
  | .inl k, v => Value.isInt k v
  | .inr x, v => Value.isStrOf x v
def keyH (w : World) : Key → Int
  | .inl k => hashInt k
  | .inr x => hashStr w x
theorem keyIs_shape : ∀ {k : Key} {v : Value}, keyIs k v = true → (∃ i t, k = Sum.inl i ∧ v = Value.int i t) ∨ (∃ x t, k = Sum.inr x ∧ v = Value.str x t)
  | .inl i, v, h => by
    obtain ⟨t, e⟩ := Value.isInt_shape (k := i) (v := v) h
    exact .inl ⟨i, t, rfl, e⟩
  | .inr x, v, h => by
    obtain ⟨t, e⟩ := Value.isStrOf_shape (x := x) (v := v) h
    exact .inr ⟨x, t, rfl, e⟩
theorem keyIs_int (i : Int) (t : Tok) : keyIs (.inl i) (.int i t) = true := by simp [keyIs, Value.isInt]
theorem keyIs_str (x : Str) (t : Tok) : keyIs (.inr x) (.str x t) = true := by simp [keyIs, Value.isStrOf]
theorem key_ll (a b : Int) : decide ((Sum.inl a : Key) = Sum.inl b) = (a == b) := by
  by_cases e : a = b
  · subst e; simp
  · have h : ¬ (Sum.inl a : Key) = Sum.inl b := fun q => e (Sum.inl.inj q)
    rw [decide_eq_false h]
    exact (beq_eq_false_iff_ne.mpr e).symm
theorem key_rr (a b : Str) : decide ((Sum.inr a : Key) = Sum.inr b) = decide (a = b) := by
  by_cases e : a = b
  · subst e; simp
  · have h : ¬ (Sum.inr a : Key) = Sum.inr b := fun q => e (Sum.inr.inj q)
    rw [decide_eq_false h, decide_eq_false e]
theorem key_lr (a : Int) (b : Str) : decide ((Sum.inl a : Key) = Sum.inr b) = false := decide_eq_false (fun q => nomatch q)
theorem key_rl (a : Str) (b : Int) : decide ((Sum.inr a : Key) = Sum.inl b) = false := decide_eq_false (fun q => nomatch q)

def mixKind (prog : Program) (w : World) : PySem.KeyKind prog w Key where
  is := keyIs
  hash := keyH w
  inj := fun v a b ha hb => by
    rcases keyIs_shape ha with ⟨i, t, rfl, rfl⟩ | ⟨x, t, rfl, rfl⟩
    · rcases keyIs_shape hb with ⟨j, u, rfl, e⟩ | ⟨y, u, rfl, e⟩
      · injection e with e1 _; rw [e1]
      · exact nomatch e
    · rcases keyIs_shape hb with ⟨j, u, rfl, e⟩ | ⟨y, u, rfl, e⟩
      · exact nomatch e
      · injection e with e1 _; rw [e1]
  byValue := fun k v h => by
    rcases keyIs_shape h with ⟨i, t, rfl, rfl⟩ | ⟨x, t, rfl, rfl⟩ <;> rfl
  pyHash := fun hv h => by
    rcases keyIs_shape hv with ⟨i, t, rfl, rfl⟩ | ⟨x, t, rfl, rfl⟩
    · exact wpAny_pyHash_int h
    · exact wpAny_pyHash_str h
  eqBool := fun hu hv h => by
    rcases keyIs_shape hu with ⟨i, t, rfl, rfl⟩ | ⟨x, t, rfl, rfl⟩
    · rcases keyIs_shape hv with ⟨j, u, rfl, rfl⟩ | ⟨y, u, rfl, rfl⟩
      · rw [key_ll] at h; exact wpAny_eqBool_int h
      · rw [key_lr] at h; exact SeqAt.EqAt.int_str i t y u _ _ _ _ h
    · rcases keyIs_shape hv with ⟨j, u, rfl, rfl⟩ | ⟨y, u, rfl, rfl⟩
      · rw [key_rl] at h; exact SeqAt.EqAt.str_int x t j u _ _ _ _ h
      · rw [key_rr] at h; exact wpAny_eqBool_str h
  «strs» := fun k x t v h => by
    rcases keyIs_shape h with ⟨i, u, rfl, e⟩ | ⟨y, u, rfl, e⟩
    · exact nomatch e
    · injection e with e1 _
      subst e1
      cases v <;> rfl

theorem mixKind_int (prog : Program) (w : World) (i : Int) (t : Tok) : (mixKind prog w).is (.inl i) (.int i t) = true := keyIs_int i t
theorem mixKind_str (prog : Program) (w : World) (x : Str) (t : Tok) : (mixKind prog w).is (.inr x) (.str x t) = true := keyIs_str x t
end L2

namespace L2
open PySem PySem.Spec PyProof.Rows

inductive V where
  | non | bl (b : Bool) | int (i : Int) | str (x : Str) | byt (b : Array UInt8) | flt (b : UInt64) | ref (a : Addr) | ty (n : String)
  deriving DecidableEq

def RelV : V → Value → Prop
  | .non, u => u = Value.none
  | .bl b, u => u = Value.bool b
  | .int i, u => ∃ t, u = Value.int i t
  | .str x, u => ∃ t, u = Value.str x t
  | .byt b, u => ∃ t, u = Value.bytes b t
  | .flt b, u => ∃ t, u = Value.float b t
  | .ref a, u => u = Value.ref a
  | .ty n, u => u = Value.type n

abbrev Vals : List V → List Value → Prop := Paired RelV
theorem Vals.length {xs : List V} {us : List Value} (r : Vals xs us) : xs.length = us.length := Paired.length r
theorem Vals.get : ∀ {xs : List V} {us : List Value} {i : Nat} {x : V}, Vals xs us → xs[i]? = some x → ∃ u, us[i]? = some u ∧ RelV x u
  | _, _, _, _, .nil, e => by simp at e
  | _, _, 0, _, .cons r _, e => by simp at e; subst e; exact ⟨_, rfl, r⟩
  | _, _, i + 1, x, .cons _ t, e => by
    obtain ⟨u, h1, h2⟩ := Vals.get (i := i) (x := x) t (by simpa using e)
    exact ⟨u, by simpa using h1, h2⟩
theorem Vals.set {x : V} {u : Value} (r : RelV x u) : ∀ {xs : List V} {us : List Value} (i : Nat), Vals xs us → Vals (xs.set i x) (us.set i u)
  | _, _, _, .nil => .nil
  | _, _, 0, .cons _ t => .cons r t
  | _, _, i + 1, .cons q t => .cons q (Vals.set r i t)
theorem Vals.append : ∀ {xs ys : List V} {us ws : List Value}, Vals xs us → Vals ys ws → Vals (xs ++ ys) (us ++ ws)
  | _, _, _, _, .nil, s => s
  | _, _, _, _, .cons r t, s => .cons r (Vals.append t s)
theorem Vals.take : ∀ {xs : List V} {us : List Value} (n : Nat), Vals xs us → Vals (xs.take n) (us.take n)
  | _, _, 0, _ => .nil
  | _, _, _ + 1, .nil => .nil
  | _, _, n + 1, .cons r t => .cons r (Vals.take n t)
theorem Vals.drop : ∀ {xs : List V} {us : List Value} (n : Nat), Vals xs us → Vals (xs.drop n) (us.drop n)
  | _, _, 0, r => r
  | _, _, _ + 1, .nil => .nil
  | _, _, n + 1, .cons _ t => Vals.drop n t
theorem Vals.none_of : ∀ {xs : List V} {us : List Value} {i : Nat}, Vals xs us → xs[i]? = none → us[i]? = none := fun {xs us i} r e => by
  have h1 := r.length
  have h2 : xs.length ≤ i := List.getElem?_eq_none_iff.mp e
  exact List.getElem?_eq_none_iff.mpr (by omega)

def RelO : Option V → Option Value → Prop
  | some v, some u => RelV v u
  | none, none => True
  | _, _ => False
def KV {κ : Type} : List (κ × V) → List (κ × Value) → Prop := Paired fun (p : κ × V) (q : κ × Value) => p.1 = q.1 ∧ RelV p.2 q.2

def kV : Key → V
  | .inl i => .int i
  | .inr x => .str x

inductive HO where
  /-- a list -/
  | lst (xs : List V)
  /-- a tuple (never changes) -/
  | tup (xs : List V)
  /-- a dict whose keys are ints and texts; one whose keys are tuples of ints and texts (the empty one is both) -/
  | dK (kvs : List (Key × V)) | dT (kvs : List (List Key × V))
  /-- a set of ints: its members, its size -/
  | set (S : Int → Bool) (n : Nat)
  /-- an instance of the class at C, its dict at dx, its attributes -/
  | ins (C dx : Addr) (fs : List (Str × V))
  /-- the dict of the instance at x -/
  | own (x : Addr)
  /-- the dict of an exception -/
  | xd (fs : List (Str × V))
  /-- a bound method, f of x -/
  | met (f x : Addr)
  /-- a range object lo, lo + 1, .. below hi -/
  | rng (lo hi : Int)
  /-- a thing that is known to the object (the script; a dict while a loop walks it): read, never written while it is so -/
  | frz (o : Obj) (u : HO)
  /-- a code object's table -/
  | tbl (ps : Array Value)
  /-- any other thing, by what is true of its one object (a def of one's own: SetO a S n := HO.ext fun h => ..) -/
  | ext (φ : Heap → Prop)

abbrev Hp := Addr → Option HO
def upd (H : Hp) (a : Addr) (o : HO) : Hp := fun b => if b = a then some o else H b
theorem upd_same {H : Hp} {a : Addr} {o : HO} : upd H a o a = some o := by unfold upd; rw [if_pos rfl]
theorem upd_ne {H : Hp} {a b : Addr} {o : HO} (h : b ≠ a) : upd H a o b = H b := by unfold upd; rw [if_neg h]
theorem upd_upd {H : Hp} {a : Addr} {o u : HO} : upd (upd H a o) a u = upd H a u := by
  funext b; unfold upd; split <;> rfl
theorem ne_of_none {H : Hp} {a b : Addr} {o : HO} (h : H a = some o) (h' : H b = none) : a ≠ b := by
  intro e; subst e; rw [h] at h'; cases h'

section
variable (P : Program) (w : World)
def ObjOk (H : Hp) (h : Heap) (a : Addr) : HO → Prop
  | .lst xs => xs.length ≤ sizeLine ∧ ∃ (its : List Value) (n : Nat), Vals xs its ∧ h.get? a = some { cls := .type "list", data := .seq its.toArray n }
  | .tup xs => xs.length ≤ sizeLine ∧ ∃ its : List Value, Vals xs its ∧ IsTup h a its.toArray
  | .dK kvs => kvs.length ≤ sizeLine ∧ (a == sysModules) = false ∧ ∃ vs, KV kvs vs ∧ h.DictOf (mixKind P w) a vs
  | .dT kvs => kvs.length ≤ sizeLine ∧ (a == sysModules) = false ∧ ∃ xs : List (List Key × Addr × Value),
      Paired (fun (p : List Key × V) (q : List Key × Addr × Value) => p.1 = q.1 ∧ H q.2.1 = some (.tup (p.1.map kV)) ∧ RelV p.2 q.2.2) kvs xs ∧
      ∃ o es ep, h.get? a = some o ∧ o.ExactDict ∧ o.data = .dict es ep ∧ es.toList = xs.map (entryOfKey (tupleKind (mixKind P w))) ∧ (xs.map (·.1)).Nodup
  | .set S n => h.SetOf (intKind P w) a S n
  | .ins C dx fs => H dx = some (.own a) ∧ fs.length ≤ 1000 ∧ dx ≠ a ∧ h.get? a = some (PySem.W.instObj C dx) ∧
      ∃ mA, h.Ns1 dx mA ∧ (∀ f, RelO (fs.lookup f) (mA f)) ∧ PySem.Within mA (fs.map (·.1))
  | .own _ => ∃ o, h.get? a = some o
  | .xd fs => ∃ mA, h.Ns1 a mA ∧ ∀ f, RelO (fs.lookup f) (mA f)
  | .rng lo hi => ∃ t u v, h.get? a = some { cls := .type "range", data := .fields #[.int lo t, .int hi u, .int 1 v] }
  | .frz o u => h.get? a = some o ∧ ObjOk H h a u
  | .tbl ps => h.get? a = some { cls := .none, data := .fields ps }
  | .met f x => h.get? a = some (PySem.W.methodObj (.ref f) (.ref x))
  | .ext φ => φ h ∧ (∃ o, h.get? a = some o) ∧ ∀ h1 h2 : Heap, φ h1 → (∀ o, h1.get? a = some o → h2.get? a = some o) → φ h2
def HOk (H : Hp) (h : Heap) : Prop := ∀ a o, H a = some o → ObjOk P w H h a o
end

section
variable {P : Program} {w : World} {H H' : Hp} {h h' : Heap} {a : Addr} {o : HO}
theorem ObjOk.lt (x : ObjOk P w H h a o) : a < h.objs.size := by
  cases o with
  | lst xs => obtain ⟨_, _, _, _, e⟩ := x; exact Heap.lt_size e
  | tup xs => obtain ⟨_, _, _, p⟩ := x; exact p.lt
  | dK kvs => obtain ⟨_, _, _, _, o, _, _, e, _⟩ := x; exact Heap.lt_size e
  | dT kvs => obtain ⟨_, _, _, _, o, _, _, e, _⟩ := x; exact Heap.lt_size e
  | set S n => obtain ⟨o, _, _, _, e, _⟩ := x; exact Heap.lt_size e
  | ins C dx fs => obtain ⟨_, _, _, e, _⟩ := x; exact Heap.lt_size e
  | own y => obtain ⟨_, e⟩ := x; exact Heap.lt_size e
  | xd fs => obtain ⟨_, ⟨_, _, _, e, _⟩, _⟩ := x; exact Heap.lt_size e
  | rng lo hi => obtain ⟨_, _, _, e⟩ := x; exact Heap.lt_size e
  | frz ob u => obtain ⟨e, _⟩ := x; exact Heap.lt_size e
  | tbl ps => exact Heap.lt_size (show h.get? a = some _ from x)
  | met f y => exact Heap.lt_size (show h.get? a = some _ from x)
  | ext φ => obtain ⟨_, ⟨_, e⟩, _⟩ := x; exact Heap.lt_size e
theorem Paired.mapP {α β : Type} {F G : α → β → Prop} : ∀ {l₁ : List α} {l₂ : List β}, Paired F l₁ l₂ → (∀ a b, F a b → G a b) → Paired G l₁ l₂
  | _, _, .nil, _ => .nil
  | _, _, .cons r t, f => .cons (f _ _ r) (Paired.mapP t f)
theorem ObjOk.stay (x : ObjOk P w H h a o) (k : ∀ b u, (b = a ∨ H b = some (.own a)) → h.get? b = some u → h'.get? b = some u)
    (ho : ∀ b, H b = some (.own a) → H' b = some (.own a)) (ht : ∀ b xs, H b = some (.tup xs) → H' b = some (.tup xs)) : ObjOk P w H' h' a o := by
  induction o with
  | lst xs => obtain ⟨z, its, n, r, e⟩ := x; exact ⟨z, its, n, r, k _ _ (.inl rfl) e⟩
  | tup xs => obtain ⟨z, its, r, ob, e, c⟩ := x; exact ⟨z, its, r, ob, k _ _ (.inl rfl) e, c⟩
  | dK kvs => obtain ⟨z, y, vs, r, ob, es, ep, e, c⟩ := x; exact ⟨z, y, vs, r, ob, es, ep, k _ _ (.inl rfl) e, c⟩
  | dT kvs =>
    obtain ⟨z, y, xs, r, ob, es, ep, e, c⟩ := x
    exact ⟨z, y, xs, Paired.mapP r fun p q z => ⟨z.1, ht _ _ z.2.1, z.2.2⟩, ob, es, ep, k _ _ (.inl rfl) e, c⟩
  | set S n => obtain ⟨ob, es, ep, t, e, c⟩ := x; exact ⟨ob, es, ep, t, k _ _ (.inl rfl) e, c⟩
  | ins C dx fs =>
    obtain ⟨d, z, ne, e, mA, ⟨od, es, ep, e2, c⟩, r⟩ := x
    exact ⟨ho _ d, z, ne, k _ _ (.inl rfl) e, mA, ⟨od, es, ep, k _ _ (.inr d) e2, c⟩, r⟩
  | own y => obtain ⟨ob, e⟩ := x; exact ⟨ob, k _ _ (.inl rfl) e⟩
  | xd fs => obtain ⟨mA, ⟨od, es, ep, e, c⟩, r⟩ := x; exact ⟨mA, ⟨od, es, ep, k _ _ (.inl rfl) e, c⟩, r⟩
  | rng lo hi => obtain ⟨t, u, v, e⟩ := x; exact ⟨t, u, v, k _ _ (.inl rfl) e⟩
  | frz ob u ih => obtain ⟨e, q⟩ := x; exact ⟨k _ _ (.inl rfl) e, ih q⟩
  | tbl ps =>
    have e : h.get? a = some { cls := .none, data := .fields ps } := x
    show h'.get? a = some { cls := .none, data := .fields ps }
    exact k a _ (.inl rfl) e
  | met f y =>
    have e : h.get? a = some (PySem.W.methodObj (.ref f) (.ref y)) := x
    show h'.get? a = some (PySem.W.methodObj (.ref f) (.ref y))
    exact k a _ (.inl rfl) e
  | ext φ => obtain ⟨p, ⟨o, e⟩, st⟩ := x; exact ⟨st _ _ p fun o q => k _ _ (.inl rfl) q, ⟨o, k _ _ (.inl rfl) e⟩, st⟩
theorem HOk.lt (x : HOk P w H h) (e : H a = some o) : a < h.objs.size := (x a o e).lt
theorem HOk.fresh (x : HOk P w H h) (e : h.objs.size ≤ a) : H a = none := by
  cases q : H a with
  | none => rfl
  | some u => exact absurd (Nat.lt_of_lt_of_le (x.lt q) e) (Nat.lt_irrefl _)
theorem HOk.kept (x : HOk P w H h) (k : ∀ b u, h.get? b = some u → h'.get? b = some u) : HOk P w H h' := fun a o e =>
  (x a o e).stay (fun b u _ q => k b u q) (fun _ q => q) fun _ _ q => q
theorem HOk.laid (x : HOk P w H h) (k : ∀ b u, h.get? b = some u → h'.get? b = some u) (hp : h.objs.size ≤ a) (new : ObjOk P w (upd H a o) h' a o) : HOk P w (upd H a o) h' := fun b u e => by
  have hn := x.fresh hp
  by_cases hb : b = a
  · subst hb; rw [upd_same] at e; cases e; exact new
  · rw [upd_ne hb] at e
    exact (x b u e).stay (fun c v _ q => k c v q) (fun c q => by rw [upd_ne (ne_of_none q hn)]; exact q) fun c xs q => by rw [upd_ne (ne_of_none q hn)]; exact q
end

def Rd (H : Hp) (a : Addr) (u : HO) : Prop := H a = some u ∨ ∃ o, H a = some (.frz o u)
theorem Rd.of {H : Hp} {a : Addr} {u : HO} (h : H a = some u) : Rd H a u := .inl h
theorem Rd.ok {P : Program} {w : World} {H : Hp} {h : Heap} {a : Addr} {u : HO} (r : Rd H a u) (x : HOk P w H h) : ObjOk P w H h a u := by
  rcases r with r | ⟨o, r⟩
  · exact x a u r
  · obtain ⟨_, q⟩ := x a _ r
    exact q
def Mut : Option HO → Prop
  | some (.lst _) => True
  | some (.dK _) => True
  | some (.dT _) => True
  | some (.set _ _) => True
  | some (.ins _ _ _) => True
  | some (.ext _) => True
  | _ => False
section
variable {P : Program} {w : World} {H : Hp} {h h' : Heap} {x e : Addr} {o' : HO}
theorem HOk.write (ok : HOk P w H h) (mu : Mut (H x)) (he : e = x ∨ H e = some (.own x)) (k : ∀ b u, b ≠ e → h.get? b = some u → h'.get? b = some u) (heo : ∃ u, h'.get? e = some u)
    (new : ObjOk P w (upd H x o') h' x o') : HOk P w (upd H x o') h' := fun b u q => by
  have nown : ∀ c y, H c = some (.own y) → c ≠ x := fun c y r z => by subst z; rw [r] at mu; exact mu
  have ntup : ∀ c xs, H c = some (.tup xs) → c ≠ x := fun c xs r z => by subst z; rw [r] at mu; exact mu
  by_cases hb : b = x
  · subst hb; rw [upd_same] at q; cases q; exact new
  · rw [upd_ne hb] at q
    by_cases hbe : b = e
    · have q' : H b = some (.own x) := by
        rcases he with z | z
        · exact absurd (hbe.trans z) hb
        · rw [hbe]; exact z
      rw [q] at q'; cases q'
      obtain ⟨v, hv⟩ := heo
      exact ⟨v, by rw [hbe]; exact hv⟩
    · refine (ok b u q).stay (fun c v hc r => k c v ?_ r) (fun c r => by rw [upd_ne (nown c b r)]; exact r) fun c xs r => by rw [upd_ne (ntup c xs r)]; exact r
      rcases hc with rfl | hc
      · exact hbe
      · rintro rfl
        rcases he with z | z
        · exact nown c b hc z
        · rw [hc] at z; cases z; exact hb rfl
end

structure Un (fs ex : List Addr) (H H' : Hp) (h h' : Heap) : Prop where
  keep : ∀ b o, h.get? b = some o → H b = none → b ∉ fs → b ∉ ex → h'.get? b = some o
  slot : ∀ b o, h.get? b = some o → H b = none → b ∈ fs → b ∉ ex → ∃ sl, h'.get? b = some { o with slots := sl }
  free : ∀ b o, h.get? b = some o → H b = none → b ∉ ex → H' b = none
  there : ∀ b o, h.get? b = some o → b ∉ ex → ∃ o', h'.get? b = some o'
  tups : ∀ b xs, H b = some (.tup xs) → H' b = some (.tup xs)
  frzs : ∀ b o u, H b = some (.frz o u) → H' b = some (.frz o u)
  tbls : ∀ b ps, H b = some (.tbl ps) → ∃ more, H' b = some (.tbl (ps ++ more))
section
variable {fs fs' ex ex' : List Addr} {H H1 H2 : Hp} {h h1 h2 h' : Heap} {a x e : Addr} {o : HO}
theorem Un.any (u : Un fs ex H H1 h h1) {b : Addr} {ob : Obj} (q : h.get? b = some ob) (n : H b = none) (hx : b ∉ ex) : ∃ sl, h1.get? b = some { ob with slots := sl } := by
  by_cases hb : b ∈ fs
  · exact u.slot b ob q n hb hx
  · exact ⟨ob.slots, u.keep b ob q n hb hx⟩
theorem Un.trans (a : Un fs ex H H1 h h1) (b : Un fs ex H1 H2 h1 h2) : Un fs ex H H2 h h2 where
  keep := fun c ob q n hc hx => b.keep c ob (a.keep c ob q n hc hx) (a.free c ob q n hx) hc hx
  slot := fun c ob q n hc hx => by
    obtain ⟨sl, e1⟩ := a.slot c ob q n hc hx
    obtain ⟨sl', e2⟩ := b.slot c _ e1 (a.free c ob q n hx) hc hx
    exact ⟨sl', e2⟩
  free := fun c ob q n hx => by
    obtain ⟨o', e1⟩ := a.there c ob q hx
    exact b.free c o' e1 (a.free c ob q n hx) hx
  there := fun c ob q hx => by
    obtain ⟨o', e1⟩ := a.there c ob q hx
    exact b.there c o' e1 hx
  tups := fun c xs q => b.tups c xs (a.tups c xs q)
  frzs := fun c ob xs q => b.frzs c ob xs (a.frzs c ob xs q)
  tbls := fun c ps q => by
    obtain ⟨m1, e1⟩ := a.tbls c ps q
    obtain ⟨m2, e2⟩ := b.tbls c _ e1
    exact ⟨m1 ++ m2, by rw [e2, Array.append_assoc]⟩
theorem Un.kept (k : ∀ b u, h.get? b = some u → h'.get? b = some u) : Un fs ex H H h h' :=
  ⟨fun b ob q _ _ _ => k b ob q, fun b ob q _ _ _ => ⟨ob.slots, k b ob q⟩, fun _ _ _ n _ => n, fun b ob q _ => ⟨ob, k b ob q⟩, fun _ _ q => q, fun _ _ _ q => q, fun _ ps q => ⟨#[], by rw [q]; simp⟩⟩
theorem Un.refl : Un fs ex H H h h := Un.kept fun _ _ q => q
theorem Un.laid (k : ∀ b u, h.get? b = some u → h'.get? b = some u) (hp : h.objs.size ≤ a) (hn : H a = none) : Un fs ex H (upd H a o) h h' where
  keep := fun b u q _ _ _ => k b u q
  slot := fun b u q _ _ _ => ⟨u.slots, k b u q⟩
  free := fun b u q n _ => by rw [upd_ne (Nat.ne_of_lt (Nat.lt_of_lt_of_le (Heap.lt_size q) hp))]; exact n
  there := fun b u q _ => ⟨u, k b u q⟩
  tups := fun b xs q => by rw [upd_ne (ne_of_none q hn)]; exact q
  frzs := fun b u xs q => by rw [upd_ne (ne_of_none q hn)]; exact q
  tbls := fun b ps q => ⟨#[], by rw [upd_ne (ne_of_none q hn), q]; simp⟩
theorem Un.write (mu : Mut (H x)) (he : e = x ∨ H e = some (.own x)) (k : ∀ b u, b ≠ e → h.get? b = some u → h'.get? b = some u) (heo : ∃ u, h'.get? e = some u) : Un fs ex H (upd H x o) h h' := by
  have hx : ∀ b, H b = none → b ≠ x := fun b n z => by subst z; rw [n] at mu; exact mu
  have hb : ∀ b, H b = none → b ≠ e := fun b n z => by
    subst z
    rcases he with r | r
    · exact hx b n r
    · rw [n] at r; cases r
  have hm : ∀ b u, H b = some u → ¬ Mut (some u) → b ≠ x := fun b u q nm z => by subst z; rw [q] at mu; exact nm mu
  refine ⟨fun b u q n _ _ => k b u (hb b n) q, fun b u q n _ _ => ⟨u.slots, k b u (hb b n) q⟩, fun b u q n _ => by rw [upd_ne (hx b n)]; exact n, fun b u q _ => ?_,
    fun b xs q => by rw [upd_ne (hm b _ q fun z => z)]; exact q, fun b u xs q => by rw [upd_ne (hm b _ q fun z => z)]; exact q, fun b ps q => ⟨#[], by rw [upd_ne (hm b _ q fun z => z), q]; simp⟩⟩
  by_cases hbe : b = e
  · subst hbe; exact heo
  · exact ⟨u, k b u hbe q⟩
theorem Un.mono (u : Un fs ex H H1 h h1) (hs : ∀ b ∈ fs, b ∈ fs') (hx : ∀ b ∈ ex, b ∈ ex') : Un fs' ex' H H1 h h1 :=
  ⟨fun b ob q n hb he => u.keep b ob q n (fun z => hb (hs b z)) fun z => he (hx b z), fun _ _ q n _ he => u.any q n fun z => he (hx _ z), fun b ob q n he => u.free b ob q n fun z => he (hx b z), fun b ob q he => u.there b ob q fun z => he (hx b z), u.tups, u.frzs, u.tbls⟩
end

def trk (h : Heap) (H : Hp) : List Addr := (List.range h.objs.size).filter fun a => (H a).isSome
def hidT (h : Heap) (H : Hp) : Heap := PySem.W.hideAll h (trk h H)
theorem hidT_size (h : Heap) (H : Hp) : (hidT h H).objs.size = h.objs.size := PySem.W.hideAll_size _ _
theorem hidT_get {h : Heap} {H : Hp} {b : Addr} {o : Obj} (e : h.get? b = some o) (n : H b = none) : (hidT h H).get? b = some o :=
  PySem.W.hideAll_get _ e fun hm => by
    have q : (H b).isSome = true := (List.mem_filter.mp hm).2
    rw [n] at q; simp at q
theorem of_hidT {h : Heap} {H : Hp} {b : Addr} {o : Obj} (e : (hidT h H).get? b = some o) : h.get? b = some o ∧ H b = none := by
  have e' : h.get? b = some o := PySem.W.of_hideAll (trk h H) e
  refine ⟨e', ?_⟩
  cases q : H b with
  | none => rfl
  | some x =>
    have hm : b ∈ trk h H := List.mem_filter.mpr ⟨List.mem_range.mpr (Heap.lt_size e'), by simp [q]⟩
    have z : (hidT h H).get? b = none := PySem.W.hideAll_none (trk h H) hm
    rw [z] at e; cases e

def allNews (g h : Heap) (L : Addr) : List (Addr × Obj) := (List.range h.objs.size).filterMap fun a => if a = L ∨ (g.get? a).isSome = true then none else (h.get? a).map fun o => (a, o)
def rest (g h : Heap) (L d : Addr) : List (Addr × Obj) := (allNews g h L).filter fun p => decide (p.1 ≠ d)
end L2

namespace L2
open PySem PySem.Spec PyProof.Rows

structure Mod (K : PySem.W.Frag) (mg : Str → Option Value) (base : Heap) : Prop where
  kin : K.In base
  glob : base.Ns mainGlobals mg
  blt : ∃ mb, base.Ns builtinsNs mb ∧ ∀ x : Str, x ≠ "__name__" → mb x = bootBuiltins x
  nolimit : base.NoLimit

structure Cx where
  prog : Program
  w : World
  K : PySem.W.Frag
  mg : Str → Option Value
  base : Heap
  A : Around
  N : List Str
  s₀ : Shared
  H₀ : Hp
  env : Env
  outer : List Env
  stack : List Env
  ex : List Addr
  fn : Str → Bool
  calm : Bool
  pn : List (Addr × Obj)
  xe : Value → Shared → Prop
def frs (l : List Env) : List Addr := l.filterMap (·.frame)
abbrev Cx.fs (X : Cx) : List Addr := frs X.outer

def Vis (sc : Scope) (x : Str) : Prop := sc.names.lookup x = some .local ∨ sc.names.lookup x = some .cell ∨ sc.names.lookup x = some .free
def Loc (sc : Scope) (x : Str) : Prop := sc.names.lookup x = some .local ∨ sc.names.lookup x = some .cell
def Look (env : Env) (h : Heap) (m : Str → Option Value) (x : Str) (u : Value) : Prop :=
  (env.kindOf x = some .local ∧ m x = some u) ∨ ((env.kindOf x = some .cell ∨ env.kindOf x = some .free) ∧ ∃ c, env.cells.lookup x = some c ∧ h.IsCell c (some u))

structure Cx.Ok (X : Cx) : Prop where
  mod : Mod X.K X.mg X.base
  kind : X.env.scope.kind = .function
  glob : X.env.globals = mainGlobals
  blt : X.env.builtins = builtinsNs
  above : X.s₀.heap.objs.size ≤ X.env.locals
  inj : ∀ x y c, X.env.cells.lookup x = some c → X.env.cells.lookup y = some c → x = y
  has : ∀ x, (X.env.kindOf x = some .cell ∨ X.env.kindOf x = some .free) → ∃ c, X.env.cells.lookup x = some c
  cab : ∀ x c, X.fn x = true → X.env.cells.lookup x = some c → X.s₀.heap.objs.size ≤ c
  hd : X.calm = true → X.A.handled = none
  frames : X.A.frames = some X.stack
  stk : X.stack = X.outer ∨ (X.stack = X.env :: X.outer ∧ X.env.frame = some X.env.locals)
  exf : ∀ b ∈ X.ex, b ≠ X.env.locals ∧ ∀ x c, X.env.cells.lookup x = some c → c ≠ b
  bs : ∀ b o, X.base.get? b = some o → X.s₀.heap.get? b = some o ∧ X.H₀ b = none
  bsz : X.base.objs.size ≤ X.s₀.heap.objs.size
  noex : ∀ b o, X.base.get? b = some o → b ∉ X.ex
  exfs : ∀ b ∈ X.ex, b ∉ X.fs
  funs : X.s₀.heap.FunFrames X.base X.outer
  frf : ∀ b ∈ X.fs, X.H₀ b = none

structure Inv (X : Cx) (pins : List (Addr × Obj)) (σ : List (Option V)) (H : Hp) (s : Shared) : Prop where
  ok : X.Ok
  os : s.os = X.s₀.os
  bare : AllBare s.gens
  base : Un X.fs X.ex X.H₀ H X.s₀.heap s.heap
  loc : ∃ m, s.heap.Ns X.env.locals m ∧ ∀ (i : Nat) (x : Str) (v : V), X.N[i]? = some x → σ[i]? = some (some v) → Vis X.env.scope x → ∃ u, RelV v u ∧ Look X.env s.heap m x u
  cell : ∀ x c, X.env.cells.lookup x = some c → ∃ v, s.heap.IsCell c v
  free : H X.env.locals = none
  freeC : ∀ x c, X.env.cells.lookup x = some c → H c = none
  pin : ∀ p ∈ X.pn ++ pins, s.heap.get? p.1 = some p.2 ∧ H p.1 = none ∧ p.1 ≠ X.env.locals ∧ p.1 ∉ X.fs ∧ ∀ v, p.2.data ≠ .cell v
  hok : HOk X.prog X.w H s.heap
  len : σ.length = X.N.length

section
variable {X : Cx} {pins : List (Addr × Obj)} {σ : List (Option V)} {H H' : Hp} {s : Shared} {h' : Heap}

theorem Cx.Ok.nofr (ok : X.Ok) {b : Addr} {o : Obj} (e : X.base.get? b = some o) : b ∉ X.fs := fun hb => by
  have := (ok.funs.mem hb).1
  rw [e] at this; cases this
theorem Inv.bs (I : Inv X pins σ H s) : ∀ b o, X.base.get? b = some o → s.heap.get? b = some o ∧ H b = none := fun b o e =>
  ⟨I.base.keep b o (I.ok.bs b o e).1 (I.ok.bs b o e).2 (I.ok.nofr e) (I.ok.noex b o e), I.base.free b o (I.ok.bs b o e).1 (I.ok.bs b o e).2 (I.ok.noex b o e)⟩
theorem Inv.bk (I : Inv X pins σ H s) : ∀ b o, X.base.get? b = some o → s.heap.get? b = some o := fun b o e => (I.bs b o e).1
theorem Inv.mod (I : Inv X pins σ H s) : Mod X.K X.mg X.base := I.ok.mod
theorem Inv.kIn (I : Inv X pins σ H s) : X.K.In s.heap := I.ok.mod.kin.keeps I.bk
theorem Inv.nolimit (I : Inv X pins σ H s) : s.heap.NoLimit := I.ok.mod.nolimit.keeps I.bk
theorem Inv.fr (I : Inv X pins σ H s) : ∃ m, Fr X.base X.env.locals s.heap m :=
  let ⟨m, hn, _⟩ := I.loc
  ⟨m, hn, I.bk, Nat.le_trans I.ok.bsz I.ok.above⟩
theorem Inv.lt (I : Inv X pins σ H s) : X.env.locals < s.heap.objs.size := let ⟨_, hn, _⟩ := I.loc; hn.lt
theorem Inv.sz (I : Inv X pins σ H s) : X.s₀.heap.objs.size ≤ s.heap.objs.size := Nat.le_trans I.ok.above (Nat.le_of_lt I.lt)
theorem Inv.nofs (I : Inv X pins σ H s) {a : Addr} (h : s.heap.objs.size ≤ a) : a ∉ X.fs := fun hb => by
  obtain ⟨_, o, ho, _⟩ := I.ok.funs.mem hb
  exact absurd (Nat.lt_of_lt_of_le (Heap.lt_size ho) (Nat.le_trans I.sz h)) (Nat.lt_irrefl _)
theorem Inv.cne (I : Inv X pins σ H s) : ∀ x c, X.env.cells.lookup x = some c → c ≠ X.env.locals := fun x c e z => by
  obtain ⟨v, o, ho, hd⟩ := I.cell x c e
  obtain ⟨m, ⟨o', es, ep, ho', hd', _⟩, _⟩ := I.loc
  rw [z, ho'] at ho; cases ho; rw [hd'] at hd; cases hd
theorem Inv.funs (I : Inv X pins σ H s) : s.heap.FunFrames X.base X.outer := by
  have all : ∀ (l : List Env), (∀ b ∈ frs l, b ∈ X.fs) → X.s₀.heap.FunFrames X.base l → s.heap.FunFrames X.base l := by
    intro l
    induction l with
    | nil => intro _ _; trivial
    | cons env r ih =>
      intro hs hl
      obtain ⟨hk, ⟨L, o, hf, hn, ho, hd⟩, hr⟩ := hl
      have hL : L ∈ X.fs := hs L (by unfold frs; rw [List.filterMap_cons, hf]; exact List.mem_cons_self)
      obtain ⟨sl, e⟩ := I.base.slot L o ho (I.ok.frf L hL) hL fun z => I.ok.exfs L z hL
      exact ⟨hk, ⟨L, _, hf, hn, e, hd⟩, ih (fun b hb => hs b (by unfold frs; rw [List.filterMap_cons, hf]; exact List.mem_cons_of_mem _ hb)) hr⟩
  exact all X.outer (fun _ hb => hb) I.ok.funs

theorem Inv.stack (I : Inv X pins σ H s) : s.heap.FunFrames X.base X.stack := by
  rcases I.ok.stk with e | ⟨e, hf⟩
  · rw [e]; exact I.funs
  · rw [e]
    obtain ⟨m, hn, _⟩ := I.loc
    refine .cons (by rw [I.ok.kind]; decide) hf hn ?_ I.funs
    exact Heap.get?_none_of_le (Nat.le_trans I.ok.bsz I.ok.above)
theorem Inv.stkSub (I : Inv X pins σ H s) : ∀ b ∈ frs X.stack, b ∈ X.env.locals :: X.fs := fun b hb => by
  rcases I.ok.stk with e | ⟨e, hf⟩
  · rw [e] at hb; exact List.mem_cons_of_mem _ hb
  · rw [e] at hb
    unfold frs at hb
    rw [List.filterMap_cons, hf] at hb
    exact hb
theorem Inv.stkFree (I : Inv X pins σ H s) : ∀ b ∈ frs X.stack, H b = none := fun b hb => by
  rcases List.mem_cons.mp (I.stkSub b hb) with e | hb
  · rw [e]; exact I.free
  · obtain ⟨_, o, ho, _⟩ := I.ok.funs.mem hb
    exact I.base.free b o ho (I.ok.frf b hb) fun z => I.ok.exfs b z hb

theorem Inv.step {g' : Array GenState} {t' : Nat} {d' : Drawn} {ch : List Addr} (I : Inv X pins σ H s)
    (hch : ∀ b ∈ ch, (b ∈ X.ex ∨ X.s₀.heap.objs.size ≤ b) ∧ b ≠ X.env.locals ∧ (∀ x c, X.env.cells.lookup x = some c → c ≠ b) ∧ ∀ p ∈ X.pn ++ pins, p.1 ≠ b)
    (keep : ∀ b o, b ≠ X.env.locals → b ∉ X.fs → b ∉ ch → s.heap.get? b = some o → H b = none → h'.get? b = some o)
    (slot : ∀ b o, b ≠ X.env.locals → b ∈ X.fs → b ∉ ch → s.heap.get? b = some o → H b = none → ∃ sl, h'.get? b = some { o with slots := sl }) (free : ∀ b o, b ∉ ch → s.heap.get? b = some o → H b = none → H' b = none)
    (there : ∀ b o, b ∉ ch → s.heap.get? b = some o → ∃ o', h'.get? b = some o')
    (tups : ∀ b xs, H b = some (.tup xs) → H' b = some (.tup xs)) (frzs : ∀ b o u, H b = some (.frz o u) → H' b = some (.frz o u)) (tbls : ∀ b ps, H b = some (.tbl ps) → ∃ more, H' b = some (.tbl (ps ++ more)))
    (ns : ∀ m, s.heap.Ns X.env.locals m → h'.Ns X.env.locals m) (hok : HOk X.prog X.w H' h') (hg : AllBare g') :
    Inv X pins σ H' { s with heap := h', gens := g', drawn := d', toks := t' } := by
  have neL : ∀ b o, X.s₀.heap.get? b = some o → b ≠ X.env.locals := fun b o e => Nat.ne_of_lt (Nat.lt_of_lt_of_le (Heap.lt_size e) I.ok.above)
  have neC : ∀ b o, X.s₀.heap.get? b = some o → b ∉ X.ex → b ∉ ch := fun b o e hx hb => by
    rcases (hch b hb).1 with z | z
    · exact hx z
    · exact absurd (Nat.lt_of_lt_of_le (Heap.lt_size e) z) (Nat.lt_irrefl _)
  have cellK : ∀ x c, X.env.cells.lookup x = some c → ∀ v, s.heap.IsCell c v → h'.IsCell c v := fun x c e v ⟨o, ho, hd⟩ => by
    have nch : c ∉ ch := fun z => (hch c z).2.2.1 x c e rfl
    by_cases hc : c ∈ X.fs
    · obtain ⟨sl, q⟩ := slot c o (I.cne x c e) hc nch ho (I.freeC x c e)
      exact ⟨_, q, hd⟩
    · exact ⟨o, keep c o (I.cne x c e) hc nch ho (I.freeC x c e), hd⟩
  refine ⟨I.ok, I.os, hg, ⟨fun b o e n hb hx => ?_, fun b o e n hb hx => ?_, fun b o e n hx => ?_, fun b o e hx => ?_, fun b xs e => tups b xs (I.base.tups b xs e), fun b o xs e => frzs b o xs (I.base.frzs b o xs e), fun b ps e => ?_⟩, ?_, fun x c e => ?_, ?_, fun x c e => ?_, fun p hp => ?_, hok, I.len⟩
  · exact keep b o (neL b o e) hb (neC b o e hx) (I.base.keep b o e n hb hx) (I.base.free b o e n hx)
  · obtain ⟨sl, e1⟩ := I.base.slot b o e n hb hx
    obtain ⟨sl', e2⟩ := slot b _ (neL b o e) hb (neC b o e hx) e1 (I.base.free b o e n hx)
    exact ⟨sl', e2⟩
  · obtain ⟨o', e1⟩ := I.base.there b o e hx
    exact free b o' (neC b o e hx) e1 (I.base.free b o e n hx)
  · obtain ⟨o', e1⟩ := I.base.there b o e hx
    exact there b o' (neC b o e hx) e1
  · obtain ⟨m1, e1⟩ := I.base.tbls b ps e
    obtain ⟨m2, e2⟩ := tbls b _ e1
    exact ⟨m1 ++ m2, by rw [e2, Array.append_assoc]⟩
  · obtain ⟨m, hn, hl⟩ := I.loc
    refine ⟨m, ns m hn, fun i x v e1 e2 e3 => ?_⟩
    obtain ⟨u, r, l⟩ := hl i x v e1 e2 e3
    refine ⟨u, r, ?_⟩
    rcases l with l | ⟨k, c, e, z⟩
    · exact .inl l
    · exact .inr ⟨k, c, e, cellK x c e _ z⟩
  · obtain ⟨v, z⟩ := I.cell x c e
    exact ⟨v, cellK x c e v z⟩
  · obtain ⟨m, ⟨o, _, _, ho, _⟩, _⟩ := I.loc
    exact free _ o (fun z => (hch _ z).2.1 rfl) ho I.free
  · obtain ⟨v, o, ho, hd⟩ := I.cell x c e
    exact free c o (fun z => (hch c z).2.2.1 x c e rfl) ho (I.freeC x c e)
  · obtain ⟨e, n, ne, nf, d⟩ := I.pin p hp
    have nch : p.1 ∉ ch := fun z => (hch p.1 z).2.2.2 p hp rfl
    exact ⟨keep p.1 p.2 ne nf nch e n, free p.1 p.2 nch e n, ne, nf, d⟩
theorem Inv.un {t' : Nat} (I : Inv X pins σ H s) (u : Un X.fs [] H H' s.heap h') (hok : HOk X.prog X.w H' h') : Inv X pins σ H' { s with heap := h', toks := t' } := by
  obtain ⟨m, ⟨o, es, ep, ho, r⟩, _⟩ := id I.loc
  obtain ⟨sl, hL⟩ := u.any ho I.free (by simp)
  exact I.step (g' := s.gens) (d' := s.drawn) (ch := []) (fun _ z => nomatch z) (fun b o _ hb _ e n => u.keep b o e n hb (by simp)) (fun b o _ hb _ e n => u.slot b o e n hb (by simp)) (fun b o _ e n => u.free b o e n (by simp)) (fun b o _ e => u.there b o e (by simp)) u.tups u.frzs u.tbls (fun m' hm => by
    obtain ⟨o', es', ep', ho', r'⟩ := hm
    rw [ho] at ho'; cases ho'
    exact ⟨_, es', ep', hL, r'⟩) hok I.bare
theorem Inv.call {g' : Array GenState} {t' : Nat} {d' : Drawn} {ch : List Addr} (I : Inv X pins σ H s) (u : Un (frs X.stack) ch H H' s.heap h') (hok : HOk X.prog X.w H' h') (hg : AllBare g')
    (hch : ∀ b ∈ ch, (b ∈ X.ex ∨ X.s₀.heap.objs.size ≤ b) ∧ b ≠ X.env.locals ∧ (∀ x c, X.env.cells.lookup x = some c → c ≠ b) ∧ ∀ p ∈ X.pn ++ pins, p.1 ≠ b) :
    Inv X pins σ H' { s with heap := h', gens := g', drawn := d', toks := t' } := by
  obtain ⟨m, ⟨o, es, ep, ho, r⟩, _⟩ := id I.loc
  obtain ⟨sl, hL⟩ := u.any ho I.free fun z => (hch _ z).2.1 rfl
  exact I.step (ch := ch) hch (fun b o hL hb hc e n => u.keep b o e n (fun z => (List.mem_cons.mp (I.stkSub b z)).elim hL hb) hc) (fun b o _ _ hc e n => u.any e n hc) (fun b o hc e n => u.free b o e n hc) (fun b o hc e => u.there b o e hc) u.tups u.frzs u.tbls (fun m' hm => by
    obtain ⟨o', es', ep', ho', r'⟩ := hm
    rw [ho] at ho'; cases ho'
    exact ⟨_, es', ep', hL, r'⟩) hok hg
theorem Inv.turned {t' : Nat} {it : Addr} (I : Inv X pins σ H s) (k : ∀ b o, b ≠ it → s.heap.get? b = some o → h'.get? b = some o) (hn : H it = none) (hL : it ≠ X.env.locals)
    (h1 : it ∈ X.ex ∨ X.s₀.heap.objs.size ≤ it) (h2 : ∀ x c, X.env.cells.lookup x = some c → c ≠ it) (h3 : ∀ p ∈ X.pn ++ pins, p.1 ≠ it) : Inv X pins σ H { s with heap := h', toks := t' } := by
  have nit : ∀ b u, H b = some u → b ≠ it := fun b u e z => by rw [z, hn] at e; cases e
  refine I.step (g' := s.gens) (d' := s.drawn) (ch := [it]) (fun b hb => ?_) (fun b o _ _ hc e _ => k b o (fun z => hc (by simp [z])) e) (fun b o _ _ hc e _ => ⟨o.slots, k b o (fun z => hc (by simp [z])) e⟩) (fun _ _ _ _ n => n)
    (fun b o hc e => ⟨o, k b o (fun z => hc (by simp [z])) e⟩) (fun _ _ e => e) (fun _ _ _ e => e) (fun b ps e => ⟨#[], by rw [e]; simp⟩) (fun m hm => ?_) (fun b u e => ?_) I.bare
  · have e : b = it := by simpa using hb
    subst e
    exact ⟨h1, hL, h2, h3⟩
  · obtain ⟨o, es, ep, ho, r⟩ := hm
    exact ⟨o, es, ep, k _ o (Ne.symm hL) ho, r⟩
  · refine (I.hok b u e).stay (fun c v hc q => k c v ?_ q) (fun _ q => q) fun _ _ q => q
    rcases hc with z | z
    · rw [z]; exact nit b u e
    · exact nit c _ z
theorem Inv.tok (I : Inv X pins σ H s) (t : Nat) : Inv X pins σ H { s with toks := t } := I.un (h' := s.heap) (t' := t) Un.refl I.hok
theorem Inv.kept {t' : Nat} (I : Inv X pins σ H s) (k : ∀ b u, s.heap.get? b = some u → h'.get? b = some u) : Inv X pins σ H { s with heap := h', toks := t' } := I.un (Un.kept k) (I.hok.kept k)
theorem Inv.laid {a : Addr} {o : HO} {t' : Nat} (I : Inv X pins σ H s) (k : ∀ b u, s.heap.get? b = some u → h'.get? b = some u) (hp : s.heap.objs.size ≤ a) (new : ObjOk X.prog X.w (upd H a o) h' a o) :
    Inv X pins σ (upd H a o) { s with heap := h', toks := t' } := I.un (Un.laid k hp (I.hok.fresh hp)) (I.hok.laid k hp new)
theorem Inv.write {x e : Addr} {o : HO} {t' : Nat} (I : Inv X pins σ H s) (mu : Mut (H x)) (he : e = x ∨ H e = some (.own x)) (k : ∀ b u, b ≠ e → s.heap.get? b = some u → h'.get? b = some u) (heo : ∃ u, h'.get? e = some u)
    (new : ObjOk X.prog X.w (upd H x o) h' x o) : Inv X pins σ (upd H x o) { s with heap := h', toks := t' } := I.un (Un.write mu he k heo) (I.hok.write mu he k heo new)
theorem Inv.pins_of {pins' : List (Addr × Obj)} (I : Inv X pins σ H s) (h : ∀ p ∈ pins', s.heap.get? p.1 = some p.2 ∧ H p.1 = none ∧ p.1 ≠ X.env.locals ∧ p.1 ∉ X.fs ∧ ∀ v, p.2.data ≠ .cell v) : Inv X pins' σ H s :=
  ⟨I.ok, I.os, I.bare, I.base, I.loc, I.cell, I.free, I.freeC, fun p hp => (List.mem_append.mp hp).elim (fun z => I.pin p (List.mem_append_left _ z)) (h p), I.hok, I.len⟩

theorem nodup_ix {N : List Str} (hN : N.Nodup) {i j : Nat} {x : Str} (a : N[i]? = some x) (b : N[j]? = some x) : i = j := by
  obtain ⟨h1, e1⟩ := List.getElem?_eq_some_iff.mp a
  obtain ⟨h2, e2⟩ := List.getElem?_eq_some_iff.mp b
  exact (List.getElem_inj hN).mp (e1.trans e2.symm)

theorem store_ok2 {M : Model} {A : Around} {E : Value → Shared → Prop} {i : Nat} {x : Str} {v : V} {u : Value} {Q : Unit → Shared → Prop} (I : Inv X pins σ H s) (hN : X.N.Nodup) (hi : X.N[i]? = some x) (hx : Loc X.env.scope x) (r : RelV v u)
    (h : ∀ s', Inv X pins (σ.set i (some v)) H s' → (∃ a, Heap.SameBut a s.heap s'.heap ∧ (a = X.env.locals ∨ X.env.cells.lookup x = some a)) → Q () s') (hf : X.fn x = true ∨ X.env.scope.names.lookup x = some .local := by first | exact .inl rfl | exact .inr rfl | assumption) : wpAny M A (storeName X.env x u) Q E s := by
  obtain ⟨m, hn, hl⟩ := id I.loc
  have hcls : (X.env.scope.kind == .class || (X.env.scope.kind == .module && X.env.locals != X.env.globals)) = false := by rw [I.ok.kind]; rfl
  have hiσ : i < σ.length := by rw [I.len]; exact (List.getElem?_eq_some_iff.mp hi).1
  have cne := I.cne
  have tracked : ∀ {a : Addr} {h' : Heap}, (∃ o, s.heap.get? a = some o ∧ H a = none) → Heap.SameBut a s.heap h' → HOk X.prog X.w H h' := fun {a h'} ha hs b ob e => by
    obtain ⟨_, _, hfree⟩ := ha
    refine (I.hok b ob e).stay (fun c w' hc q => (hs.2 c ?_).trans q) (fun _ q => q) fun _ _ q => q
    rintro rfl
    rcases hc with rfl | hc
    · rw [hfree] at e; cases e
    · rw [hfree] at hc; cases hc
  rcases hx with hk | hk
  · refine wpAny_storeName_local hk hn (fun h' hn' hs => ?_) hcls
    obtain ⟨oL, _, _, hoL, _⟩ := id hn
    refine h _ ⟨I.ok, I.os, I.bare, ⟨fun b o e n hb hx => ?_, fun b o e n hb hx => ?_, I.base.free, fun b o e hx => ?_, I.base.tups, I.base.frzs, I.base.tbls⟩, ⟨_, hn', fun j y v' e1 e2 e3 => ?_⟩, fun y c e => ?_, I.free, I.freeC, fun p hp => ?_, tracked ⟨oL, hoL, I.free⟩ hs, by simpa using I.len⟩ ⟨_, hs, .inl rfl⟩
    · exact (hs.2 b (Nat.ne_of_lt (Nat.lt_of_lt_of_le (Heap.lt_size e) I.ok.above))).trans (I.base.keep b o e n hb hx)
    · obtain ⟨sl, e1⟩ := I.base.slot b o e n hb hx
      exact ⟨sl, (hs.2 b (Nat.ne_of_lt (Nat.lt_of_lt_of_le (Heap.lt_size e) I.ok.above))).trans e1⟩
    · obtain ⟨o', e1⟩ := I.base.there b o e hx
      exact ⟨o', (hs.2 b (Nat.ne_of_lt (Nat.lt_of_lt_of_le (Heap.lt_size e) I.ok.above))).trans e1⟩
    · by_cases hj : j = i
      · subst hj
        rw [hi] at e1; cases e1
        rw [List.getElem?_set_self hiσ] at e2
        cases e2
        exact ⟨u, r, .inl ⟨hk, by simp⟩⟩
      · rw [List.getElem?_set_ne (Ne.symm hj)] at e2
        obtain ⟨u', r', q⟩ := hl j y v' e1 e2 e3
        refine ⟨u', r', ?_⟩
        rcases q with ⟨k, e⟩ | ⟨k, c, e, z⟩
        · refine .inl ⟨k, ?_⟩
          have : y ≠ x := fun e => hj (nodup_ix hN e1 (e ▸ hi))
          simp [this, e]
        · exact .inr ⟨k, c, e, z.sameBut hs (cne y c e)⟩
    · obtain ⟨w', z⟩ := I.cell y c e
      exact ⟨w', z.sameBut hs (cne y c e)⟩
    · obtain ⟨e, n, ne, nf, d⟩ := I.pin p hp
      exact ⟨(hs.2 p.1 ne).trans e, n, ne, nf, d⟩
  · have hfn : X.fn x = true := by
      rcases hf with z | z
      · exact z
      · rw [z] at hk; cases hk
    obtain ⟨c, hc⟩ := I.ok.has x (.inl hk)
    obtain ⟨w', z⟩ := I.cell x c hc
    refine wpAny_storeName_cell I.ok.kind hk hc z (fun h' hc' hs => ?_)
    obtain ⟨oc, hoc, hocd⟩ := id z
    refine h { s with heap := h' } ⟨I.ok, I.os, I.bare, ⟨fun b o e n hb hx => ?_, fun b o e n hb hx => ?_, I.base.free, fun b o e hx => ?_, I.base.tups, I.base.frzs, I.base.tbls⟩, ⟨m, hn.sameBut hs (Ne.symm (cne x c hc)), fun j y v' e1 e2 e3 => ?_⟩, fun y c' e => ?_, I.free, I.freeC, fun p hp => ?_, tracked ⟨oc, hoc, I.freeC x c hc⟩ hs, by simpa using I.len⟩ ⟨c, hs, .inr hc⟩
    · exact (hs.2 b (Nat.ne_of_lt (Nat.lt_of_lt_of_le (Heap.lt_size e) (I.ok.cab x c hfn hc)))).trans (I.base.keep b o e n hb hx)
    · obtain ⟨sl, e1⟩ := I.base.slot b o e n hb hx
      exact ⟨sl, (hs.2 b (Nat.ne_of_lt (Nat.lt_of_lt_of_le (Heap.lt_size e) (I.ok.cab x c hfn hc)))).trans e1⟩
    · obtain ⟨o', e1⟩ := I.base.there b o e hx
      exact ⟨o', (hs.2 b (Nat.ne_of_lt (Nat.lt_of_lt_of_le (Heap.lt_size e) (I.ok.cab x c hfn hc)))).trans e1⟩
    · by_cases hj : j = i
      · subst hj
        rw [hi] at e1; cases e1
        rw [List.getElem?_set_self hiσ] at e2
        cases e2
        exact ⟨u, r, .inr ⟨.inl hk, c, hc, hc'⟩⟩
      · rw [List.getElem?_set_ne (Ne.symm hj)] at e2
        obtain ⟨u', r', q⟩ := hl j y v' e1 e2 e3
        refine ⟨u', r', ?_⟩
        rcases q with q | ⟨k, c', e, z'⟩
        · exact .inl q
        · refine .inr ⟨k, c', e, z'.sameBut hs ?_⟩
          rintro rfl
          exact hj (nodup_ix hN e1 (I.ok.inj _ _ _ e hc ▸ hi))
    · by_cases hcc : c' = c
      · subst hcc; exact ⟨_, hc'⟩
      · obtain ⟨w2, z2⟩ := I.cell y c' e
        exact ⟨w2, z2.sameBut hs hcc⟩
    · obtain ⟨e, n, ne, nf, d⟩ := I.pin p hp
      refine ⟨(hs.2 p.1 ?_).trans e, n, ne, nf, d⟩
      intro q
      rw [q, hoc] at e
      have q' : oc = p.2 := Option.some.inj e
      exact d w' (by rw [← q']; exact hocd)
theorem store_ok {M : Model} {A : Around} {E : Value → Shared → Prop} {i : Nat} {x : Str} {v : V} {u : Value} {Q : Unit → Shared → Prop} (I : Inv X pins σ H s) (hN : X.N.Nodup) (hi : X.N[i]? = some x) (hx : Loc X.env.scope x) (r : RelV v u)
    (h : ∀ s', Inv X pins (σ.set i (some v)) H s' → Q () s') (hf : X.fn x = true ∨ X.env.scope.names.lookup x = some .local := by first | exact .inl rfl | exact .inr rfl | assumption) : wpAny M A (storeName X.env x u) Q E s :=
  store_ok2 I hN hi hx r (fun s' I' _ => h s' I') hf
theorem Inv.call' {s' : Shared} {ch : List Addr} (I : Inv X pins σ H s) (ho : s'.os = s.os) (u : Un (frs X.stack) ch H H' s.heap s'.heap) (hok : HOk X.prog X.w H' s'.heap) (hg : AllBare s'.gens)
    (hch : ∀ b ∈ ch, (b ∈ X.ex ∨ X.s₀.heap.objs.size ≤ b) ∧ b ≠ X.env.locals ∧ (∀ x c, X.env.cells.lookup x = some c → c ≠ b) ∧ ∀ p ∈ X.pn ++ pins, p.1 ≠ b) : Inv X pins σ H' s' := by
  obtain ⟨h', g', d', t', o'⟩ := s'
  have e : o' = s.os := ho
  subst e
  exact I.call (g' := g') (t' := t') (d' := d') u hok hg hch
end

abbrev XK := Value → Option Addr → Hp → Prop
abbrev St := List (Option V)
abbrev VK := V → Hp → Prop
abbrev TE := St → Hp → VK → Prop
abbrev TT := St → Hp → (Bool → Hp → Prop) → Prop
abbrev TA := St → Hp → (List V → Hp → Prop) → Prop
structure Ends where
  nx : St → Hp → Prop
  rt : VK
  bk : St → Hp → Prop := fun _ _ => False
  ct : St → Hp → Prop := fun _ _ => False
abbrev TS := Ends → St → Hp → Prop

def EP (X : Cx) (pins : List (Addr × Obj)) (σ : St) (Q : VK) (u : Value) (s' : Shared) : Prop := ∃ v H', Inv X pins σ H' s' ∧ RelV v u ∧ Q v H'
def TP (X : Cx) (pins : List (Addr × Obj)) (σ : St) (Q : Bool → Hp → Prop) (b : Bool) (s' : Shared) : Prop := ∃ H', Inv X pins σ H' s' ∧ Q b H'
def AP (X : Cx) (pins : List (Addr × Obj)) (σ : St) (Q : List V → Hp → Prop) (us : List Value) (s' : Shared) : Prop := ∃ vs H', Inv X pins σ H' s' ∧ Vals vs us ∧ Q vs H'
def SP (X : Cx) (pins : List (Addr × Obj)) (D : Ends) (f : Flow) (s' : Shared) : Prop :=
  match f with
  | .next => ∃ σ' H', Inv X pins σ' H' s' ∧ D.nx σ' H'
  | .brk => ∃ σ' H', Inv X pins σ' H' s' ∧ D.bk σ' H'
  | .cont => ∃ σ' H', Inv X pins σ' H' s' ∧ D.ct σ' H'
  | .ret u => ∃ v σ' H', Inv X pins σ' H' s' ∧ RelV v u ∧ D.rt v H'

def PE (X : Cx) (e : Expr) (t : TE) : Prop :=
  ∀ (pins : List (Addr × Obj)) (s : Shared) (σ : St) (H : Hp) (Q : VK), Inv X pins σ H s → t σ H Q → wpAny (model X.prog X.w) X.A (eval e X.env) (EP X pins σ Q) X.xe s
def PT (X : Cx) (e : Expr) (t : TT) : Prop :=
  ∀ (pins : List (Addr × Obj)) (s : Shared) (σ : St) (H : Hp) (Q : Bool → Hp → Prop), Inv X pins σ H s → t σ H Q → wpAny (model X.prog X.w) X.A (isTrue e X.env (eval e X.env)) (TP X pins σ Q) X.xe s
def PW (X : Cx) (e : Expr) (t : TT) : Prop :=
  ∀ (whole : Sem Value) (pins : List (Addr × Obj)) (s : Shared) (σ : St) (H : Hp) (Q : Bool → Hp → Prop), Inv X pins σ H s → t σ H Q → wpAny (model X.prog X.w) X.A (isTrue e X.env whole) (TP X pins σ Q) X.xe s
theorem PW.pt {X : Cx} {e : Expr} {t : TT} (h : PW X e t) : PT X e t := h _
def PA (X : Cx) (es : List Expr) (t : TA) : Prop :=
  ∀ (pos : Pos) (pins : List (Addr × Obj)) (s : Shared) (σ : St) (H : Hp) (Q : List V → Hp → Prop), Inv X pins σ H s → t σ H Q → wpAny (model X.prog X.w) X.A (spliced (backTo pos (starEach es X.env))) (AP X pins σ Q) X.xe s
def PS (X : Cx) (st : Stmt) (t : TS) : Prop :=
  ∀ (pins : List (Addr × Obj)) (s : Shared) (σ : St) (H : Hp) (D : Ends), Inv X pins σ H s → t D σ H → wpAny (model X.prog X.w) X.A (exec st X.env) (SP X pins D) X.xe s
def PSs (X : Cx) (st : List Stmt) (t : TS) : Prop :=
  ∀ (pins : List (Addr × Obj)) (s : Shared) (σ : St) (H : Hp) (D : Ends), Inv X pins σ H s → t D σ H → wpAny (model X.prog X.w) X.A (execs st X.env) (SP X pins D) X.xe s
theorem thn {α : Type} {t : Sem α} {Q Q' : α → Shared → Prop} {M : Model} {A : Around} {E : Value → Shared → Prop} {s : Shared} (h : wpAny M A t Q E s) (hQ : ∀ a s, Q a s → Q' a s) : wpAny M A t Q' E s := wpAny_mono h hQ fun _ _ x => x
end L2

namespace L2
open PySem PySem.Spec PyProof.Rows
section
variable {X : Cx}

def tVar (i : Nat) : TE := fun σ H Q => ∃ v, σ[i]? = some (some v) ∧ Q v H
def tC (v : V) : TE := fun _ H Q => Q v H
theorem pe_var {i : Nat} {x : Str} {pos : Pos} (hN : X.N[i]? = some x) (hv : Vis X.env.scope x) (hd : (x == ("__debug__" : Str)) = false := by decide) (hcd : (x == ("__classdict__" : Str)) = false := by decide) : PE X (.Name x pos) (tVar i) := by
  intro pins s σ H Q I h
  obtain ⟨v, e, h⟩ := h
  obtain ⟨m, hn, hl⟩ := I.loc
  obtain ⟨u, r, l⟩ := hl i x v hN e hv
  have fin : EP X pins σ Q u s := ⟨v, H, I, r, h⟩
  rcases l with ⟨hk, hm⟩ | ⟨hk, c, hc, hcell⟩
  · exact wpAny_Name (wpAny_loadName_local I.ok.kind hk hn hm fin) hd
  · rcases hk with hk | hk
    · exact wpAny_Name (wpAny_loadName_cell I.ok.kind hk hc hcell fin) hd
    · exact wpAny_Name (wpAny_loadName_free I.ok.kind hk hc hcell fin hcd) hd
theorem pe_int {i j pos} : PE X (.Constant (.int i) j pos) (tC (.int i)) := fun _ _ _ H _ I h => wpAny_Constant_int ⟨.int i, H, I.tok _, ⟨_, rfl⟩, h⟩
theorem pe_bl {b j pos} : PE X (.Constant (.bool b) j pos) (tC (.bl b)) := fun _ _ _ H _ I h => Constant_bool ⟨.bl b, H, I, rfl, h⟩
theorem pe_non {j pos} : PE X (.Constant .none j pos) (tC .non) := fun _ _ _ H _ I h => Constant_none ⟨.non, H, I, rfl, h⟩
theorem pe_str {x j pos} : PE X (.Constant (.str x) j pos) (tC (.str x)) := fun _ _ _ H _ I h => Calls.Constant_str ⟨.str x, H, I.tok _, ⟨_, rfl⟩, h⟩

def Gl (X : Cx) (x : Str) : Prop := X.env.kindOf x = some .globalImplicit
theorem ld_glob {E : Value → Shared → Prop} {pins : List (Addr × Obj)} {s : Shared} {σ : St} {H : Hp} {x : Str} {u : Value} {pos : Pos} {Q : Value → Shared → Prop} (I : Inv X pins σ H s) (hg : Gl X x) (hm : X.mg x = some u) (h : Q u s)
    (hd : (x == ("__debug__" : Str)) = false := by decide) : wpAny (model X.prog X.w) X.A (eval (.Name x pos) X.env) Q E s :=
  Calls.Name_function_global I.ok.kind hg (Calls.loadGlobal_global (by rw [I.ok.glob]; exact I.mod.glob.keeps I.bk) hm h) hd
theorem ld_blt {E : Value → Shared → Prop} {pins : List (Addr × Obj)} {s : Shared} {σ : St} {H : Hp} {x : Str} {u : Value} {pos : Pos} {Q : Value → Shared → Prop} (I : Inv X pins σ H s) (hg : Gl X x) (hm : X.mg x = none) (hv : bootBuiltins x = some u) (h : Q u s)
    (hn : x ≠ "__name__" := by decide) (hd : (x == ("__debug__" : Str)) = false := by decide) : wpAny (model X.prog X.w) X.A (eval (.Name x pos) X.env) Q E s := by
  obtain ⟨mb, h1, h2⟩ := I.mod.blt
  exact Calls.Name_function_global I.ok.kind hg (Calls.loadGlobal_builtin (by rw [I.ok.glob]; exact I.mod.glob.keeps I.bk) hm (by rw [I.ok.blt]; exact h1.keeps I.bk) ((h2 x hn).trans hv) h) hd
theorem pe_glob {x : Str} {v : V} {u : Value} {pos : Pos} (hg : Gl X x) (hm : X.mg x = some u) (r : RelV v u) (hd : (x == ("__debug__" : Str)) = false := by decide) : PE X (.Name x pos) (tC v) :=
  fun _ _ _ H _ I h => ld_glob I hg hm ⟨v, H, I, r, h⟩ hd
theorem pe_bltn {x : Str} {v : V} {u : Value} {pos : Pos} (hg : Gl X x) (hm : X.mg x = none) (hv : bootBuiltins x = some u) (r : RelV v u) (hn : x ≠ "__name__" := by decide) (hd : (x == ("__debug__" : Str)) = false := by decide) : PE X (.Name x pos) (tC v) :=
  fun _ _ _ H _ I h => ld_blt I hg hm hv ⟨v, H, I, r, h⟩ hn hd

variable {a b : Expr} {ta tb : TE} {pos : Pos}
variable {tA tB' : TT} {rest : List Expr}
def tNot (t : TT) : TT := fun σ H Q => t σ H fun c H1 => Q (!c) H1
theorem pw_and1 (ha : PT X a tA) : PW X (.BoolOp .And [a] pos) tA := by
  intro wh pins s σ H Q I h
  refine isTrue_and (thn (ha pins s σ H Q I h) fun c s1 e => ?_)
  cases c with
  | true => exact isTrue_and_nil e
  | false => exact e
theorem pw_or1 (ha : PT X a tA) : PW X (.BoolOp .Or [a] pos) tA := by
  intro wh pins s σ H Q I h
  refine isTrue_or (thn (ha pins s σ H Q I h) fun c s1 e => ?_)
  cases c with
  | false => exact isTrue_or_nil e
  | true => exact e
theorem pt_not (ha : PT X a tA) : PT X (.UnaryOp .Not a pos) (tNot tA) := by
  intro pins s σ H Q I h
  exact isTrue_not (ha pins s σ H (fun c H1 => Q (!c) H1) I h)
theorem pe_one {op} {t : TE} (h : PE X a t) : PE X (.BoolOp op [a] pos) t := fun pins s σ H Q I hw => BoolOp_one (h pins s σ H Q I hw)
end
end L2

namespace L2
open PySem PySem.Spec PyProof.Rows

def SqL (K : PySem.W.Frag) (H : Hp) (a : Addr) (xs : List V) : Prop :=
  Rd H a (.lst xs) ∨
    ∃ (o : Obj) (its : Array Value) (n : Nat), K.lookup a = some o ∧ o.cls = .type "list" ∧ o.dict = none ∧ o.data = .seq its n ∧ its.size ≤ sizeLine ∧ Vals xs its.toList
def SqT (K : PySem.W.Frag) (H : Hp) (a : Addr) (xs : List V) : Prop :=
  Rd H a (.tup xs) ∨
    ∃ (o : Obj) (its : Array Value) (n : Nat), K.lookup a = some o ∧ o.cls = .type "tuple" ∧ o.data = .seq its n ∧ its.size ≤ sizeLine ∧ Vals xs its.toList
def absV : Value → Option V
  | .none => some .non
  | .bool b => some (.bl b)
  | .int i _ => some (.int i)
  | .str x _ => some (.str x)
  | .bytes b _ => some (.byt b)
  | .float b _ => some (.flt b)
  | .ref a => some (.ref a)
  | .type n => some (.ty n)
  | _ => none
theorem RelV.abs {x : V} {u : Value} (r : RelV x u) : absV u = some x := by
  cases x with
  | non => cases r; rfl
  | bl _ => cases r; rfl
  | int _ => obtain ⟨t, rfl⟩ := r; rfl
  | str _ => obtain ⟨t, rfl⟩ := r; rfl
  | byt _ => obtain ⟨t, rfl⟩ := r; rfl
  | flt _ => obtain ⟨t, rfl⟩ := r; rfl
  | ref _ => cases r; rfl
  | ty _ => cases r; rfl
theorem RelV.inj {x y : V} {u : Value} (r : RelV x u) (q : RelV y u) : x = y := Option.some.inj (r.abs.symm.trans q.abs)
theorem Vals.inj : ∀ {xs ys : List V} {us : List Value}, Vals xs us → Vals ys us → xs = ys
  | _, _, _, .nil, .nil => rfl
  | _, _, _, .cons r t, .cons r' t' => by rw [r.inj r', Vals.inj t t']
section
variable {X : Cx} {pins : List (Addr × Obj)} {σ : St} {H : Hp} {s : Shared} {a : Addr} {xs ys : List V}
theorem SqL.of {K : PySem.W.Frag} (h : H a = some (.lst xs)) : SqL K H a xs := .inl (.inl h)
theorem SqT.of {K : PySem.W.Frag} (h : H a = some (.tup xs)) : SqT K H a xs := .inl (.inl h)
theorem Inv.list (I : Inv X pins σ H s) (h : SqL X.K H a xs) : ∃ its : List Value, Vals xs its ∧ PlainL s.heap a its.toArray ∧ xs.length ≤ sizeLine := by
  rcases h with h | ⟨o, its, n, hk, hc, hd, hs, hz, r⟩
  · obtain ⟨z, its, n, r, e⟩ := h.ok I.hok
    exact ⟨its, r, ⟨_, n, e, rfl, rfl, rfl⟩, z⟩
  · refine ⟨its.toList, r, ⟨o, n, I.kIn a o hk, hc, hd, by simpa using hs⟩, ?_⟩
    have e := r.length
    simp only [Array.length_toList] at e
    omega
theorem Inv.tuple (I : Inv X pins σ H s) (h : SqT X.K H a xs) : ∃ its : List Value, Vals xs its ∧ IsTup s.heap a its.toArray ∧ xs.length ≤ sizeLine := by
  rcases h with h | ⟨o, its, n, hk, hc, hs, hz, r⟩
  · obtain ⟨z, its, r, p⟩ := h.ok I.hok
    exact ⟨its, r, p, z⟩
  · refine ⟨its.toList, r, ⟨o, I.kIn a o hk, hc, n, by simpa using hs⟩, ?_⟩
    have e := r.length
    simp only [Array.length_toList] at e
    omega
theorem Inv.list_inj (I : Inv X pins σ H s) (h : SqL X.K H a xs) (h' : SqL X.K H a ys) : xs = ys := by
  obtain ⟨its, r, ⟨o, n, e, _, _, d⟩, _⟩ := I.list h
  obtain ⟨its', r', ⟨o', n', e', _, _, d'⟩, _⟩ := I.list h'
  rw [e] at e'; cases e'
  rw [d] at d'
  injection d' with d1 _
  have : its = its' := by simpa using congrArg Array.toList d1
  subst this
  exact r.inj r'
theorem Inv.tuple_inj (I : Inv X pins σ H s) (h : SqT X.K H a xs) (h' : SqT X.K H a ys) : xs = ys := by
  obtain ⟨its, r, ⟨o, e, _, n, d⟩, _⟩ := I.tuple h
  obtain ⟨its', r', ⟨o', e', _, n', d'⟩, _⟩ := I.tuple h'
  rw [e] at e'; cases e'
  rw [d] at d'
  injection d' with d1 _
  have : its = its' := by simpa using congrArg Array.toList d1
  subst this
  exact r.inj r'
end

abbrev Cx.wish (X : Cx) (E : Value → Shared → Prop) : Cx := { X with xe := E }
abbrev Cx.nox (X : Cx) : Cx := X.wish fun _ _ => False
theorem Cx.Ok.wish {X : Cx} (ok : X.Ok) (E : Value → Shared → Prop) : (X.wish E).Ok :=
  ⟨ok.mod, ok.kind, ok.glob, ok.blt, ok.above, ok.inj, ok.has, ok.cab, ok.hd, ok.frames, ok.stk, ok.exf, ok.bs, ok.bsz, ok.noex, ok.exfs, ok.funs, ok.frf⟩
theorem Cx.Ok.unwish {X : Cx} {E : Value → Shared → Prop} (ok : (X.wish E).Ok) : X.Ok :=
  ⟨ok.mod, ok.kind, ok.glob, ok.blt, ok.above, ok.inj, ok.has, ok.cab, ok.hd, ok.frames, ok.stk, ok.exf, ok.bs, ok.bsz, ok.noex, ok.exfs, ok.funs, ok.frf⟩
section
variable {X : Cx} {pins : List (Addr × Obj)} {σ : St} {H : Hp} {s : Shared} {E : Value → Shared → Prop}
theorem Inv.wish (I : Inv X pins σ H s) (E : Value → Shared → Prop) : Inv (X.wish E) pins σ H s := ⟨I.ok.wish E, I.os, I.bare, I.base, I.loc, I.cell, I.free, I.freeC, I.pin, I.hok, I.len⟩
theorem Inv.unwish (I : Inv (X.wish E) pins σ H s) : Inv X pins σ H s := ⟨I.ok.unwish, I.os, I.bare, I.base, I.loc, I.cell, I.free, I.freeC, I.pin, I.hok, I.len⟩
theorem SP.unwish {D : Ends} {f : Flow} {s' : Shared} (h : SP (X.wish E) pins D f s') : SP X pins D f s' := by
  cases f with
  | next => obtain ⟨σ', H', I, q⟩ := h; exact ⟨σ', H', I.unwish, q⟩
  | brk => obtain ⟨σ', H', I, q⟩ := h; exact ⟨σ', H', I.unwish, q⟩
  | cont => obtain ⟨σ', H', I, q⟩ := h; exact ⟨σ', H', I.unwish, q⟩
  | ret u => obtain ⟨v, σ', H', I, r, q⟩ := h; exact ⟨v, σ', H', I.unwish, r, q⟩
theorem PE.nox {e : Expr} {t : TE} (h : PE X.nox e t) : PE X e t := fun pins s σ H Q I hw =>
  wpAny_mono (h pins s σ H Q (I.wish _) hw) (fun _ _ ⟨v, H', I', r, q⟩ => ⟨v, H', I'.unwish, r, q⟩) fun _ _ z => False.elim z
theorem PT.nox {e : Expr} {t : TT} (h : PT X.nox e t) : PT X e t := fun pins s σ H Q I hw =>
  wpAny_mono (h pins s σ H Q (I.wish _) hw) (fun _ _ ⟨H', I', q⟩ => ⟨H', I'.unwish, q⟩) fun _ _ z => False.elim z
theorem PSs.nox {st : List Stmt} {t : TS} (h : PSs X.nox st t) : PSs X st t := fun pins s σ H D I hw =>
  wpAny_mono (h pins s σ H D (I.wish _) hw) (fun _ _ q => q.unwish) fun _ _ z => False.elim z
end

section
variable {X : Cx} {st : Stmt} {rest : List Stmt} {t u : TS} {e : Expr} {te : TE} {pos : Pos}
def tNext : TS := fun D σ H => D.nx σ H
def tSeq (t u : TS) : TS := fun D σ H => t { D with nx := u D } σ H
theorem pss_nil : PSs X [] tNext := fun _ _ σ H _ I h => wpAny_execs_nil ⟨σ, H, I, h⟩
theorem pss_cons (h1 : PS X st t) (h2 : PSs X rest u) : PSs X (st :: rest) (tSeq t u) := by
  intro pins s σ H D I h
  refine wpAny_execs_cons (thn (h1 pins s σ H { D with nx := u D } I h) fun f s1 q => ?_)
  cases f with
  | next =>
    obtain ⟨σ', H', I', q⟩ := q
    exact h2 pins s1 σ' H' D I' q
  | ret v => exact q
  | brk => exact q
  | cont => exact q
theorem pss_one (h1 : PS X st t) : PSs X [st] t := by
  intro pins s σ H D I h
  refine wpAny_execs_cons (thn (h1 pins s σ H D I h) fun f s1 q => ?_)
  cases f with
  | next => exact wpAny_execs_nil q
  | ret v => exact q
  | brk => exact q
  | cont => exact q
theorem Inv.quiet {pins : List (Addr × Obj)} {σ : St} {H : Hp} {s : Shared} (I : Inv X pins σ H s) : interactive X.env = false := by simp [interactive, I.ok.kind]
def tDrop (te : TE) : TS := fun D σ H => te σ H fun _ H1 => D.nx σ H1
theorem ps_expr (he : PE X e te) (hs : swapsWith e none pos.line X.env = pure false := by rfl) : PS X (.Expr e pos) (tDrop te) := by
  intro pins s σ H D I h
  exact wpAny_Expr_any (thn (he pins s σ H _ I h) fun v s1 ⟨x, H1, I1, r1, q1⟩ => ⟨σ, H1, I1, q1⟩) I.quiet hs
def tRet (te : TE) : TS := fun D σ H => te σ H D.rt
theorem ps_ret (he : PE X e te) : PS X (.Return (some e) pos) (tRet te) := by
  intro pins s σ H D I h
  exact wpAny_Return_some (thn (he pins s σ H _ I h) fun v s1 ⟨x, H1, I1, r1, q1⟩ => ⟨x, σ, H1, I1, r1, q1⟩)
end

abbrev TG := V → St → Hp → (St → Hp → Prop) → Prop
def PG (X : Cx) (target : Expr) (t : TG) : Prop :=
  ∀ (pins : List (Addr × Obj)) (s : Shared) (σ : St) (H : Hp) (v : V) (u : Value) (Q : St → Hp → Prop), Inv X pins σ H s → RelV v u → t v σ H Q →
    wpAny (model X.prog X.w) X.A (assign target X.env u) (fun _ s' => ∃ σ' H', Inv X pins σ' H' s' ∧ Q σ' H') X.xe s
section
variable {X : Cx} {pos : Pos}
def gName (i : Nat) : TG := fun v σ H Q => Q (σ.set i (some v)) H
theorem pg_name {i : Nat} {x : Str} (hN : X.N.Nodup) (hi : X.N[i]? = some x) (hx : Loc X.env.scope x) (hf : X.fn x = true ∨ X.env.scope.names.lookup x = some .local := by first | exact .inl rfl | exact .inr rfl | assumption) : PG X (.Name x pos) (gName i) := by
  intro pins s σ H v u Q I r h
  exact wpAny_assign_Name (store_ok I hN hi hx r (fun s' I' => ⟨_, H, I', h⟩) hf)
def tAsg (te : TE) (g : TG) : TS := fun D σ H => te σ H fun x H1 => g x σ H1 D.nx
theorem ps_set {i : Nat} {x : Str} {e : Expr} {te : TE} {pos' : Pos} (hN : X.N.Nodup) (hi : X.N[i]? = some x) (hx : Loc X.env.scope x) (he : PE X e te) (hs : swapsWith e (some (.Name x pos')) pos.line X.env = pure false := by rfl) (hf : X.fn x = true ∨ X.env.scope.names.lookup x = some .local := by first | exact .inl rfl | exact .inr rfl | assumption) :
    PS X (.Assign [.Name x pos'] e pos) (tAsg te (gName i)) := by
  intro pins s σ H D I h
  refine wpAny_Assign_Name (thn (he pins s σ H _ I h) fun v s1 ⟨y, H1, I1, r1, q1⟩ => ?_) hs
  exact store_ok I1 hN hi hx r1 (fun s2 I2 => ⟨_, H1, I2, q1⟩) hf
end

section
variable {X : Cx} {pos : Pos}
def tWhile (c : TT) (tb : TS) : TS := fun D σ H => ∃ W : Nat → St → Hp → Prop, (∃ m, W m σ H) ∧ ∀ m σ H, W m σ H →
  c σ H fun b H1 => if b = true then ∃ N : St → Hp → Prop, (∀ σ' H', N σ' H' → ∃ m', m' < m ∧ W m' σ' H') ∧ tb { D with nx := N, ct := N, bk := D.nx } σ H1 else D.nx σ H1
theorem ps_while {c : Expr} {body : List Stmt} {tc : TT} {tb : TS} (hp : PassesOwn (model X.prog X.w) X.A X.env X.xe) (hc : PT X c tc) (hb : PSs X body tb) : PS X (.While c body [] pos) (tWhile tc tb) := by
  intro pins s σ H D I h
  obtain ⟨W, ⟨m0, w0⟩, turn⟩ := h
  refine wpAny_While (codeAny_whileLoop (fun n s' => ∃ σ' H', Inv X pins σ' H' s' ∧ W n σ' H') ?_ m0 ⟨σ, H, I, w0⟩)
  rintro n s1 ⟨σ1, H1, I1, w1⟩
  refine wpAny_passesOwn hp (thn (hc pins s1 σ1 H1 _ I1 (turn n σ1 H1 w1)) fun b s2 ⟨H2, I2, q2⟩ => ?_)
  cases b with
  | true =>
    obtain ⟨N, hN, q2⟩ := q2
    rw [if_pos rfl]
    refine wpAny_passesOwn hp (thn (hb pins s2 σ1 H2 _ I2 q2) fun f s3 q3 => ?_)
    cases f with
    | next =>
      obtain ⟨σ3, H3, I3, n3⟩ := q3
      obtain ⟨m', hm, w3⟩ := hN σ3 H3 n3
      exact ⟨m', hm, σ3, H3, I3, w3⟩
    | cont =>
      obtain ⟨σ3, H3, I3, n3⟩ := q3
      obtain ⟨m', hm, w3⟩ := hN σ3 H3 n3
      exact ⟨m', hm, σ3, H3, I3, w3⟩
    | brk => exact q3
    | ret v => exact q3
  | false =>
    rw [if_neg Bool.false_ne_true]
    exact wpAny_execs_nil ⟨σ1, H2, I2, q2⟩
end

structure It where
  go : Nat → Hp → Prop
  yld : Nat → Hp → V → Hp → Prop
  stop : Nat → Hp → Prop
def FpOk (X : Cx) (pins : List (Addr × Obj)) (H : Hp) (b : Addr) : Prop :=
  H b = none ∧ b ≠ X.env.locals ∧ b ∉ X.fs ∧ (b ∈ X.ex ∨ X.s₀.heap.objs.size ≤ b) ∧ (∀ x c, X.env.cells.lookup x = some c → c ≠ b) ∧ ∀ p ∈ X.pn ++ pins, p.1 ≠ b
theorem Inv.fpOk {X : Cx} {pins : List (Addr × Obj)} {σ : St} {H H' : Hp} {s : Shared} {b : Addr} (I : Inv X pins σ H s) (hb : s.heap.objs.size ≤ b) (hn : H' b = none) : FpOk X pins H' b := by
  refine ⟨hn, Nat.ne_of_gt (Nat.lt_of_lt_of_le I.lt hb), I.nofs hb, .inr (Nat.le_trans I.sz hb), fun x c e z => ?_, fun p hp z => ?_⟩
  · obtain ⟨v, q⟩ := I.cell x c e
    exact absurd (Nat.lt_of_lt_of_le q.lt (by rw [z]; exact hb)) (Nat.lt_irrefl _)
  · exact absurd (Nat.lt_of_lt_of_le (Heap.lt_size (I.pin p hp).1) (by rw [z]; exact hb)) (Nat.lt_irrefl _)
structure Turn (P : Program) (w : World) (K : PySem.W.Frag) (tg : Expr) (J : It) (fp : List Addr) (it : Addr) (tn : Nat → Heap → Prop) : Prop where
  mem : it ∈ fp
  obj : ∀ i h, tn i h → ∀ b ∈ fp, ∃ o, h.get? b = some o ∧ ∀ v, o.data ≠ .cell v
  keep : ∀ i h h', tn i h → (∀ b ∈ fp, ∀ o, h.get? b = some o → h'.get? b = some o) → tn i h'
  item : ∀ (X : Cx), X.prog = P → X.w = w → X.K = K → X.calm = true → ∀ (i : Nat) (pins : List (Addr × Obj)) (s : Shared) (σ : St) (H : Hp) (E : Value → Shared → Prop), Inv X pins σ H s → (∀ b ∈ fp, FpOk X pins H b) → tn i s.heap → J.go i H →
    wpAny (model P w) X.A (pyNext (.ref it)) (fun r s1 => ∃ u, r = some u ∧
      wpAny (model P w) X.A (letOwnedTupleGo tg (.ref it) u) (fun _ s2 => ∃ x H', Inv X pins σ H' s2 ∧ RelV x u ∧ J.yld i H x H' ∧ tn (i + 1) s2.heap ∧ ∀ b ∈ fp, H' b = none) E s1) E s
  done : ∀ (X : Cx), X.prog = P → X.w = w → X.K = K → X.calm = true → ∀ (i : Nat) (pins : List (Addr × Obj)) (s : Shared) (σ : St) (H : Hp) (E : Value → Shared → Prop), Inv X pins σ H s → (∀ b ∈ fp, FpOk X pins H b) → tn i s.heap → J.stop i H →
    wpAny (model P w) X.A (pyNext (.ref it)) (fun r s1 => r = none ∧ Inv X pins σ H s1) E s
  self : ∀ (A : Around) (i : Nat) (s : Shared) (Q : Value → Shared → Prop) (E : Value → Shared → Prop), tn i s.heap → Q (.ref it) s → wpAny (model P w) A (pyIter (.ref it)) Q E s
abbrev TI := St → Hp → (It → Hp → Prop) → Prop
def PIE (X : Cx) (pins : List (Addr × Obj)) (σ : St) (tg : Expr) (R : It → Hp → Prop) (itv : Value) (s2 : Shared) : Prop :=
  ∃ (it : Addr) (fp : List Addr) (tn : Nat → Heap → Prop) (J : It) (H' : Hp), itv = .ref it ∧ Inv X pins σ H' s2 ∧ Turn X.prog X.w X.K tg J fp it tn ∧ tn 0 s2.heap ∧ (∀ b ∈ fp, FpOk X pins H' b) ∧ R J H'
def PI (X : Cx) (tg iter : Expr) (wi : TI) : Prop :=
  ∀ (pins : List (Addr × Obj)) (s : Shared) (σ : St) (H : Hp) (R : It → Hp → Prop), Inv X pins σ H s → wi σ H R →
    wpAny (model X.prog X.w) X.A (eval iter X.env) (fun v s1 => wpAny (model X.prog X.w) X.A (pyIter v) (PIE X pins σ tg R) X.xe s1) X.xe s

theorem go_of {M : Model} {A : Around} {E : Value → Shared → Prop} {s : Shared} {tg : Expr} {it : Addr} {u : Value} {o : Obj} {n : String} {vs : Array Value} {Q : Unit → Shared → Prop} (ho : s.heap.get? it = some o) (hc : o.cls = .type n) (hd : o.data = .fields vs)
    (hn : ["enumerate", "zip", "dict_itemiterator", "dict_reverseitemiterator", "odict_iterator", "itertools.zip_longest", "itertools.pairwise"].contains n = false) (hQ : Q () s) : wpAny M A (letOwnedTupleGo tg (.ref it) u) Q E s := by
  unfold letOwnedTupleGo
  cases tg <;> first
    | exact wpAny_pure hQ
    | (cases u <;> first
        | exact wpAny_pure hQ
        | (refine wpAny_bind (wpAny_load ho ?_)
           rw [hc, hd]
           show wpAny M A (if (["enumerate", "zip", "dict_itemiterator", "dict_reverseitemiterator", "odict_iterator", "itertools.zip_longest", "itertools.pairwise"].contains n && vs[0]? == some (rawInt _)) = true then _ else _) Q E s
           rw [if_neg (by intro h; rw [hn, Bool.false_and] at h; cases h)]
           exact wpAny_pure hQ))

def Itl (K : PySem.W.Frag) (a : Addr) : It :=
  ⟨fun i H => ∃ xs x, SqL K H a xs ∧ xs[i]? = some x, fun i H x H' => H' = H ∧ ∀ xs, SqL K H a xs → xs[i]? = some x, fun i H => ∃ xs, SqL K H a xs ∧ xs.length ≤ i⟩
def Itt (K : PySem.W.Frag) (a : Addr) : It :=
  ⟨fun i H => ∃ xs x, SqT K H a xs ∧ xs[i]? = some x, fun i H x H' => H' = H ∧ ∀ xs, SqT K H a xs → xs[i]? = some x, fun i H => ∃ xs, SqT K H a xs ∧ xs.length ≤ i⟩
def Itr (lo : Int) (n : Nat) : It := ⟨fun i _ => i < n, fun i H x H' => H' = H ∧ x = .int (lo + i), fun i _ => n ≤ i⟩
theorem turn_list {P : Program} {w : World} {K : PySem.W.Frag} {tg : Expr} (a it : Addr) : Turn P w K tg (Itl K a) [it] it (fun i h => h.IsListIter it a i) where
  mem := by simp
  obj := fun i h st b hb => by
    have e : b = it := by simpa using hb
    subst e
    obtain ⟨o, e, c, d⟩ := st
    exact ⟨o, e, fun v z => by rw [d] at z; cases z⟩
  keep := fun i h h' st k => st.at fun o e => k it (by simp) o e
  item := by
    intro X hP hw hK hc i pins s σ H E I hf st hg
    subst hP hw hK
    obtain ⟨xs, x, hq, hx⟩ := hg
    obtain ⟨its, rv, p, hz⟩ := I.list hq
    obtain ⟨u, hu, ru⟩ := rv.get hx
    obtain ⟨f0, f1, f2, f3, f4, f5⟩ := hf it (by simp)
    refine wpAny_pyNext_list_item st p.isList (x := u) (by simpa using hu) fun h' st' sb => ?_
    have I1 : Inv X pins σ H { s with heap := h' } := I.turned (t' := s.toks) (fun b o hb e => (sb.2 b hb).trans e) f0 f1 f3 f4 f5
    obtain ⟨o, e, c, d⟩ := id st'
    exact ⟨u, rfl, go_of (s := { s with heap := h' }) e c d (by decide) ⟨x, H, I1, ru, ⟨rfl, fun ys hy => by rw [I.list_inj hy hq]; exact hx⟩, st', fun b hb => (hf b hb).1⟩⟩
  done := by
    intro X hP hw hK hc i pins s σ H E I hf st hg
    subst hP hw hK
    obtain ⟨xs, hq, hx⟩ := hg
    obtain ⟨its, rv, p, hz⟩ := I.list hq
    obtain ⟨f0, f1, f2, f3, f4, f5⟩ := hf it (by simp)
    have hl := rv.length
    exact wpAny_pyNext_list_end (I.ok.hd hc) st p.isList (by simp; omega) fun h' eb => ⟨rfl, I.turned (t' := s.toks) (fun b o hb e => eb b o hb e) f0 f1 f3 f4 f5⟩
  self := fun _ _ _ _ _ st h => wpAny_pyIter_listiter st h
theorem turn_tuple {P : Program} {w : World} {K : PySem.W.Frag} {tg : Expr} (a it : Addr) : Turn P w K tg (Itt K a) [it] it (fun i h => h.IsTupleIter it a i) where
  mem := by simp
  obj := fun i h st b hb => by
    have e : b = it := by simpa using hb
    subst e
    obtain ⟨o, e, c, d⟩ := st
    exact ⟨o, e, fun v z => by rw [d] at z; cases z⟩
  keep := fun i h h' st k => st.at fun o e => k it (by simp) o e
  item := by
    intro X hP hw hK hc i pins s σ H E I hf st hg
    subst hP hw hK
    obtain ⟨xs, x, hq, hx⟩ := hg
    obtain ⟨its, rv, p, hz⟩ := I.tuple hq
    obtain ⟨u, hu, ru⟩ := rv.get hx
    obtain ⟨f0, f1, f2, f3, f4, f5⟩ := hf it (by simp)
    refine wpAny_pyNext_tuple_item st (show s.heap.IsTuple a its.toArray from p) (x := u) (by simpa using hu) fun h' st' sb => ?_
    have I1 : Inv X pins σ H { s with heap := h' } := I.turned (t' := s.toks) (fun b o hb e => (sb.2 b hb).trans e) f0 f1 f3 f4 f5
    obtain ⟨o, e, c, d⟩ := id st'
    exact ⟨u, rfl, go_of (s := { s with heap := h' }) e c d (by decide) ⟨x, H, I1, ru, ⟨rfl, fun ys hy => by rw [I.tuple_inj hy hq]; exact hx⟩, st', fun b hb => (hf b hb).1⟩⟩
  done := by
    intro X hP hw hK hc i pins s σ H E I hf st hg
    subst hP hw hK
    obtain ⟨xs, hq, hx⟩ := hg
    obtain ⟨its, rv, p, hz⟩ := I.tuple hq
    obtain ⟨f0, f1, f2, f3, f4, f5⟩ := hf it (by simp)
    have hl := rv.length
    exact wpAny_pyNext_tuple_end (I.ok.hd hc) st (show s.heap.IsTuple a its.toArray from p) (by simp; omega) fun h' eb => ⟨rfl, I.turned (t' := s.toks) (fun b o hb e => eb b o hb e) f0 f1 f3 f4 f5⟩
  self := fun _ _ _ _ _ st h => wpAny_pyIter_tupleiter st h
theorem turn_range {P : Program} {w : World} {K : PySem.W.Frag} {tg : Expr} (it : Addr) (lo : Int) (n : Nat) : Turn P w K tg (Itr lo n) [it] it (fun i h => IsRangeIter h it (lo + (i : Nat) * 1) ((n : Int) - (i : Nat)) 1) where
  mem := by simp
  obj := fun i h st b hb => by
    have e : b = it := by simpa using hb
    subst e
    exact ⟨_, st, fun v z => by
      have z' : Data.fields _ = Data.cell v := z
      cases z'⟩
  keep := fun i h h' st k => k it (by simp) _ st
  item := by
    intro X hP hw hK hc i pins s σ H E I hf st hg
    subst hP hw hK
    obtain ⟨f0, f1, f2, f3, f4, f5⟩ := hf it (by simp)
    have W := Walks.range (prog := X.prog) (w := X.w) (I.ok.hd hc) it lo 1 n
    refine W.item i s _ _ hg st fun v h' tk hv st' kk => ?_
    obtain ⟨t, rfl⟩ := hv
    have I1 : Inv X pins σ H { s with heap := h', toks := tk } := I.turned (fun b o hb e => kk b o (by simpa using hb) e) f0 f1 f3 f4 f5
    refine ⟨_, rfl, go_of (s := { s with heap := h', toks := tk }) (n := "range_iterator") st' rfl rfl (by decide) ⟨.int (lo + i), H, I1, ⟨t, ?_⟩, ⟨rfl, rfl⟩, st', fun b hb => (hf b hb).1⟩⟩
    rw [Int.mul_one]
  done := by
    intro X hP hw hK hc i pins s σ H E I hf st hg
    subst hP hw hK
    obtain ⟨f0, f1, f2, f3, f4, f5⟩ := hf it (by simp)
    exact wpAny_pyNext_range_end (I.ok.hd hc) st (by have : n ≤ i := hg; omega) fun h' eb => ⟨rfl, I.turned (t' := s.toks) (fun b o hb e => eb b o hb e) f0 f1 f3 f4 f5⟩
  self := fun _ _ _ _ _ st h => wpAny_pyIter_rangeiter st h
end L2

namespace L2
open PySem PySem.Spec PyProof.Rows
section
variable {X : Cx} {tg : Expr}
theorem range_it {pins : List (Addr × Obj)} {σ : St} {H : Hp} {s : Shared} {R : It → Hp → Prop} {E : Value → Shared → Prop} {lo hi : Int} {t u v : Tok} {tk : Nat} (I : Inv X pins σ H s) (h1 : -(2 ^ 62) ≤ lo) (h2 : lo < 2 ^ 62) (h3 : -(2 ^ 62) ≤ hi) (h4 : hi < 2 ^ 62)
    (q : R (Itr lo (hi - lo).toNat) H) : wpAny (model X.prog X.w) X.A (pyIter (.ref s.heap.objs.size)) (PIE X pins σ tg R) E { s with heap := s.heap.push { cls := .type "range", data := .fields #[.int lo t, .int hi u, .int 1 v] }, toks := tk } := by
  refine wpAny_pyIter_range (IsRange.new ..) (small_one h1 h2 h3 h4) ?_
  have I1 : Inv X pins σ H { s with heap := s.heap.push { cls := .type "range", data := .fields #[.int lo t, .int hi u, .int 1 v] }, toks := tk } := I.kept fun b o e => Heap.get?_push_of_some _ e
  refine ⟨(s.heap.push { cls := .type "range", data := .fields #[.int lo t, .int hi u, .int 1 v] }).objs.size, [(s.heap.push { cls := .type "range", data := .fields #[.int lo t, .int hi u, .int 1 v] }).objs.size], _, _, H, rfl,
    I1.kept (t' := tk) fun b o e => Heap.get?_push_of_some _ e, turn_range _ lo (hi - lo).toNat, ?_, fun b hb => ?_, q⟩
  · have e1 : lo + ((0 : Nat) : Int) * 1 = lo := by simp
    have e2 : (((hi - lo).toNat : Nat) : Int) - ((0 : Nat) : Int) = Builtin.Range.rangeSize lo hi 1 := by rw [rangeSize_one]; split <;> omega
    show IsRangeIter _ _ (lo + ((0 : Nat) : Int) * 1) ((((hi - lo).toNat : Nat) : Int) - ((0 : Nat) : Int)) 1
    rw [e1, e2]
    exact Heap.get?_push_size _ rfl
  · have e : b = (s.heap.push { cls := .type "range", data := .fields #[.int lo t, .int hi u, .int 1 v] }).objs.size := by simpa using hb
    subst e
    exact I1.fpOk (Nat.le_refl _) (I1.hok.fresh (Nat.le_refl _))
def iRng1 (ta : TA) : TI := fun σ H R => ta σ H fun vs H1 => ∃ j : Int, vs = [.int j] ∧ -(2 ^ 62) ≤ j ∧ j < 2 ^ 62 ∧ R (Itr 0 j.toNat) H1
theorem pi_range1 {a : Expr} {ta : TA} {p pos : Pos} (hg : Gl X "range") (hm : X.mg "range" = none) (ha : PA X [a] ta) (hs : starEach [a] X.env = [(false, eval a X.env)] := by rfl) : PI X tg (.Call (.Name "range" p) [a] [] pos) (iRng1 ta) := by
  intro pins s σ H R I h
  refine Call_ (ld_blt I hg hm boot_range (PyProof.Rows.callWith_type1 (thn (ha pos pins s σ H _ I h) fun us s1 ⟨vs, H1, I1, r1, q1⟩ => ?_) hs rfl))
  obtain ⟨j, e, q1, q2, q⟩ := q1
  subst e
  cases r1 with
  | cons r rr =>
    cases rr
    obtain ⟨t, rfl⟩ := r
    exact call_range_1 (range_it I1 (by omega) (by omega) q1 q2 (by simpa using q))
def tFor (wi : TI) (g : TG) (tb : TS) : TS := fun D σ H => wi σ H fun J H1 => ∃ W : Nat → Nat → St → Hp → Prop, (∃ m, W 0 m σ H1) ∧ ∀ i m σ H, W i m σ H →
  (J.stop i H ∧ D.nx σ H) ∨ (J.go i H ∧ ∃ N : St → Hp → Prop, (∀ σ' H', N σ' H' → ∃ m', m' < m ∧ W (i + 1) m' σ' H') ∧ ∀ x H', J.yld i H x H' → g x σ H' fun σ2 H2 => tb { D with nx := N, ct := N, bk := D.nx } σ2 H2)
def pinsAt (fp : List Addr) (h : Heap) : List (Addr × Obj) := fp.filterMap fun b => (h.get? b).map fun o => (b, o)
theorem mem_pinsAt {fp : List Addr} {h : Heap} {b : Addr} {o : Obj} (hb : b ∈ fp) (e : h.get? b = some o) : (b, o) ∈ pinsAt fp h := List.mem_filterMap.mpr ⟨b, hb, by rw [e]; rfl⟩
theorem of_pinsAt {fp : List Addr} {h : Heap} {p : Addr × Obj} (hp : p ∈ pinsAt fp h) : p.1 ∈ fp ∧ h.get? p.1 = some p.2 := by
  obtain ⟨b, hb, e⟩ := List.mem_filterMap.mp hp
  cases q : h.get? b with
  | none => rw [q] at e; cases e
  | some o =>
    rw [q] at e
    have e' : (b, o) = p := Option.some.inj e
    subst e'
    exact ⟨hb, q⟩
theorem Inv.pinned {pins : List (Addr × Obj)} {σ : St} {H : Hp} {s : Shared} {fp : List Addr} (I : Inv X pins σ H s) (hf : ∀ b ∈ fp, FpOk X pins H b) (ho : ∀ b ∈ fp, ∃ o, s.heap.get? b = some o ∧ ∀ v, o.data ≠ .cell v) : Inv X (pins ++ pinsAt fp s.heap) σ H s :=
  I.pins_of fun p hp => (List.mem_append.mp hp).elim (fun z => I.pin p (List.mem_append_right _ z)) fun z => by
    obtain ⟨hb, e⟩ := of_pinsAt z
    obtain ⟨f0, f1, f2, _⟩ := hf p.1 hb
    obtain ⟨o, e', d⟩ := ho p.1 hb
    rw [e] at e'; cases e'
    exact ⟨e, f0, f1, f2, d⟩
theorem Inv.unpinned {pins pl : List (Addr × Obj)} {σ : St} {H : Hp} {s : Shared} (I : Inv X (pins ++ pl) σ H s) : Inv X pins σ H s := I.pins_of fun p hp => I.pin p (List.mem_append_right _ (List.mem_append_left _ hp))
theorem ps_for {iter : Expr} {body : List Stmt} {wi : TI} {g : TG} {tb : TS} {pos : Pos} (hp : PassesOwn (model X.prog X.w) X.A X.env X.xe) (hc : X.calm = true) (hi : PI X tg iter wi) (hg : PG X tg g) (hb : PSs X body tb)
    (hs : ∀ x, foldedSetIterable iter X.env x = pure x := by intro _; rfl) : PS X (.For tg iter body [] pos) (tFor wi g tb) := by
  intro pins s σ H D I h
  refine wpAny_For (thn (hi pins s σ H _ I h) fun v s1 h1 => thn h1 fun itv s2 h2 => ?_) hs
  obtain ⟨it, fp, tn, J, H2, e, I2, T, st2, f2, W, ⟨m0, w0⟩, turn⟩ := h2
  subst e
  -- what stays true of the iterator's objects through the loop
  have stat : ∀ {H' : Hp}, (∀ b ∈ fp, H' b = none) → ∀ b ∈ fp, FpOk X pins H' b := fun hn b hb => ⟨hn b hb, (f2 b hb).2⟩
  refine codeAny_forLoop_any (fun n s' => ∃ i σ' H', Inv X pins σ' H' s' ∧ tn i s'.heap ∧ (∀ b ∈ fp, H' b = none) ∧ W i n σ' H') ?_ m0 ⟨0, σ, H2, I2, st2, fun b hb => (f2 b hb).1, w0⟩
  rintro n s3 ⟨i, σ3, H3, I3, st3, fr3, w3⟩
  rcases turn i n σ3 H3 w3 with ⟨stop, qn⟩ | ⟨go, N, hN, step⟩
  · refine wpAny_passesOwn hp (thn (T.done X rfl rfl rfl hc i pins s3 σ3 H3 X.xe I3 (stat fr3) st3 stop) fun r s4 ⟨hr, I4⟩ => ?_)
    subst hr
    exact wpAny_execs_nil ⟨σ3, H3, I4, qn⟩
  · refine wpAny_passesOwn hp (thn (T.item X rfl rfl rfl hc i pins s3 σ3 H3 X.xe I3 (stat fr3) st3 go) fun r s4 ⟨u, hr, h4⟩ => ?_)
    subst hr
    refine wpAny_passesOwn hp (thn h4 fun _ s5 ⟨x, H5, I5, r5, y5, st5, fr5⟩ => ?_)
    have I5' := I5.pinned (stat fr5) (T.obj _ _ st5)
    refine wpAny_passesOwn hp (thn (hg _ s5 σ3 H5 x u _ I5' r5 (step x H5 y5)) fun _ s6 ⟨σ6, H6, I6, q6⟩ => ?_)
    refine wpAny_passesOwn hp (thn (hb _ s6 σ6 H6 _ I6 q6) fun f s7 q7 => ?_)
    have again : ∀ {σ7 : St} {H7 : Hp}, Inv X (pins ++ pinsAt fp s5.heap) σ7 H7 s7 → N σ7 H7 → ∃ m, m < n ∧ ∃ i σ' H', Inv X pins σ' H' s7 ∧ tn i s7.heap ∧ (∀ b ∈ fp, H' b = none) ∧ W i m σ' H' := fun {σ7 H7} I7 n7 => by
      obtain ⟨m', hm, w7⟩ := hN σ7 H7 n7
      refine ⟨m', hm, i + 1, σ7, H7, I7.unpinned, T.keep _ _ _ st5 fun b hb o e => (I7.pin (b, o) (List.mem_append_right _ (List.mem_append_right _ (mem_pinsAt hb e)))).1, fun b hb => ?_, w7⟩
      obtain ⟨o, e, d⟩ := T.obj _ _ st5 b hb
      exact (I7.pin (b, o) (List.mem_append_right _ (List.mem_append_right _ (mem_pinsAt hb e)))).2.1
    cases f with
    | next => obtain ⟨σ7, H7, I7, n7⟩ := q7; exact again I7 n7
    | cont => obtain ⟨σ7, H7, I7, n7⟩ := q7; exact again I7 n7
    | brk => obtain ⟨σ7, H7, I7, q7⟩ := q7; exact ⟨σ7, H7, I7.unpinned, q7⟩
    | ret v => obtain ⟨x7, σ7, H7, I7, r7, q7⟩ := q7; exact ⟨x7, σ7, H7, I7.unpinned, r7, q7⟩
end

theorem for_list {K : PySem.W.Frag} {a : Addr} {xs : List V} {g : TG} {tb : TS} {D : Ends} {σ : St} {H : Hp} (Pv : Nat → St → Hp → Prop) (h0 : Pv 0 σ H) (hl : ∀ i σ H, i ≤ xs.length → Pv i σ H → SqL K H a xs)
    (hs : ∀ i x σ H, xs[i]? = some x → Pv i σ H → g x σ H fun σ2 H2 => tb { D with nx := Pv (i + 1), ct := Pv (i + 1), bk := D.nx } σ2 H2) (hd : ∀ σ H, Pv xs.length σ H → D.nx σ H) :
    ∃ W : Nat → Nat → St → Hp → Prop, (∃ m, W 0 m σ H) ∧ ∀ i m σ H, W i m σ H →
      ((Itl K a).stop i H ∧ D.nx σ H) ∨ ((Itl K a).go i H ∧ ∃ N : St → Hp → Prop, (∀ σ' H', N σ' H' → ∃ m', m' < m ∧ W (i + 1) m' σ' H') ∧ ∀ x H', (Itl K a).yld i H x H' → g x σ H' fun σ2 H2 => tb { D with nx := N, ct := N, bk := D.nx } σ2 H2) := by
  refine ⟨fun i m σ H => m = xs.length - i ∧ i ≤ xs.length ∧ Pv i σ H, ⟨xs.length, by simp, Nat.zero_le _, h0⟩, ?_⟩
  rintro i m σ H ⟨rfl, hi, p⟩
  have q := hl i σ H hi p
  by_cases hlt : i < xs.length
  · refine .inr ⟨⟨xs, xs[i], q, by simp [hlt]⟩, Pv (i + 1), fun σ' H' p' => ⟨xs.length - (i + 1), by omega, rfl, hlt, p'⟩, fun x H' y => ?_⟩
    obtain ⟨e, y⟩ := y
    subst e
    exact hs i x σ _ (y xs q) p
  · have e : i = xs.length := by omega
    subst e
    exact .inl ⟨⟨xs, q, Nat.le_refl _⟩, hd σ H p⟩
theorem for_range {lo : Int} {n : Nat} {g : TG} {tb : TS} {D : Ends} {σ : St} {H : Hp} (Pv : Nat → St → Hp → Prop) (h0 : Pv 0 σ H)
    (hs : ∀ i σ H, i < n → Pv i σ H → g (.int (lo + i)) σ H fun σ2 H2 => tb { D with nx := Pv (i + 1), ct := Pv (i + 1), bk := D.nx } σ2 H2) (hd : ∀ σ H, Pv n σ H → D.nx σ H) :
    ∃ W : Nat → Nat → St → Hp → Prop, (∃ m, W 0 m σ H) ∧ ∀ i m σ H, W i m σ H →
      ((Itr lo n).stop i H ∧ D.nx σ H) ∨ ((Itr lo n).go i H ∧ ∃ N : St → Hp → Prop, (∀ σ' H', N σ' H' → ∃ m', m' < m ∧ W (i + 1) m' σ' H') ∧ ∀ x H', (Itr lo n).yld i H x H' → g x σ H' fun σ2 H2 => tb { D with nx := N, ct := N, bk := D.nx } σ2 H2) := by
  refine ⟨fun i m σ H => m = n - i ∧ i ≤ n ∧ Pv i σ H, ⟨n, by simp, Nat.zero_le _, h0⟩, ?_⟩
  rintro i m σ H ⟨rfl, hi, p⟩
  by_cases hlt : i < n
  · refine .inr ⟨hlt, Pv (i + 1), fun σ' H' p' => ⟨n - (i + 1), by omega, rfl, hlt, p'⟩, fun x H' y => ?_⟩
    obtain ⟨e, y⟩ := y
    subst e y
    exact hs i σ _ hlt p
  · have e : i = n := by omega
    subst e
    exact .inl ⟨Nat.le_refl _, hd σ H p⟩
end L2

namespace L2
open PySem PySem.Spec PyProof.Rows

abbrev R2 := V → V → Hp → VK → Prop
def OpR (X : Cx) (f : Value → Value → Sem Value) (r : R2) : Prop :=
  ∀ (pins : List (Addr × Obj)) (s : Shared) (σ : St) (H : Hp) (x y : V) (v u : Value) (Q : VK), Inv X pins σ H s → RelV x v → RelV y u → r x y H Q →
    wpAny (model X.prog X.w) X.A (f v u) (EP X pins σ Q) X.xe s
def UnR (X : Cx) (f : Value → Sem Value) (r : V → Hp → VK → Prop) : Prop :=
  ∀ (pins : List (Addr × Obj)) (s : Shared) (σ : St) (H : Hp) (x : V) (v : Value) (Q : VK), Inv X pins σ H s → RelV x v → r x H Q →
    wpAny (model X.prog X.w) X.A (f v) (EP X pins σ Q) X.xe s
def CallR (X : Cx) (f : Value) (r : List V → Hp → VK → Prop) : Prop :=
  ∀ (pins : List (Addr × Obj)) (s : Shared) (σ : St) (H : Hp) (xs : List V) (us : List Value) (Q : VK), Inv X pins σ H s → Vals xs us → r xs H Q →
    wpAny (model X.prog X.w) X.A (call f us) (EP X pins σ Q) X.xe s
def TruR (X : Cx) (r : V → Hp → (Bool → Hp → Prop) → Prop) : Prop :=
  ∀ (pins : List (Addr × Obj)) (s : Shared) (σ : St) (H : Hp) (x : V) (v : Value) (Q : Bool → Hp → Prop), Inv X pins σ H s → RelV x v → r x H Q →
    wpAny (model X.prog X.w) X.A (truthy v) (TP X pins σ Q) X.xe s

def tOp (r : R2) (ta tb : TE) : TE := fun σ H Q => ta σ H fun x H1 => tb σ H1 fun y H2 => r x y H2 Q
def tUn (r : V → Hp → VK → Prop) (ta : TE) : TE := fun σ H Q => ta σ H fun x H1 => r x H1 Q
def rI (C : Int → Int → Prop) (g : Int → Int → V) : R2 := fun x y H Q => ∃ i j, x = .int i ∧ y = .int j ∧ C i j ∧ Q (g i j) H
def rI0 (g : Int → Int → V) : R2 := fun x y H Q => ∃ i j, x = .int i ∧ y = .int j ∧ Q (g i j) H
def rU (g : Int → V) : V → Hp → VK → Prop := fun x H Q => ∃ i, x = .int i ∧ Q (g i) H

section
variable {X : Cx} {a b c : Expr} {ta tb tc : TE} {pos : Pos}

theorem binT (ha : PE X a ta) (hb : PE X b tb) {pins : List (Addr × Obj)} {s : Shared} {σ : St} {H : Hp} {R : V → V → Hp → Prop} (I : Inv X pins σ H s)
    (h : ta σ H fun x H1 => tb σ H1 fun y H2 => R x y H2) {Q : Value → Shared → Prop} {f : Value → Value → Sem Value}
    (hf : ∀ v u s2 x y H2, Inv X pins σ H2 s2 → RelV x v → RelV y u → R x y H2 → wpAny (model X.prog X.w) X.A (f v u) Q X.xe s2) :
    wpAny (model X.prog X.w) X.A (eval a X.env) (fun v s₁ => wpAny (model X.prog X.w) X.A (eval b X.env) (fun u s₂ => wpAny (model X.prog X.w) X.A (f v u) Q X.xe s₂) X.xe s₁) X.xe s := by
  refine thn (ha pins s σ H _ I h) fun v s1 ⟨x, H1, I1, r1, q1⟩ => ?_
  refine thn (hb pins s1 σ H1 _ I1 q1) fun u s2 ⟨y, H2, I2, r2, q2⟩ => ?_
  exact hf v u s2 x y H2 I2 r1 r2 q2

theorem pe_op {op : Operator} {r : R2} (ho : OpR X (binaryOp op) r) (ha : PE X a ta) (hb : PE X b tb) : PE X (.BinOp a op b pos) (tOp r ta tb) := by
  intro pins s σ H Q I h
  exact wpAny_BinOp (binT ha hb I h fun v u s2 x y H2 I2 rx ry q => ho pins s2 σ H2 x y v u Q I2 rx ry q)
theorem pe_un {op : UnaryOp} {r : V → Hp → VK → Prop} (ho : UnR X (unaryOp op) r) (ha : PE X a ta) : PE X (.UnaryOp op a pos) (tUn r ta) := by
  intro pins s σ H Q I h
  exact UnaryOp_ (thn (ha pins s σ H _ I h) fun v s1 ⟨x, H1, I1, r1, q1⟩ => ho pins s1 σ H1 x v Q I1 r1 q1)
theorem opI {f : Value → Value → Sem Value} {C : Int → Int → Prop} {g : Int → Int → Int}
    (rule : ∀ (i j : Int) (t u : Tok) (s : Shared) (Q : Value → Shared → Prop) (E : Value → Shared → Prop), C i j → Q (.int (g i j) s.toks) { s with toks := s.toks + 1 } → wpAny (model X.prog X.w) X.A (f (.int i t) (.int j u)) Q E s) :
    OpR X f (rI C fun i j => .int (g i j)) := by
  intro pins s σ H x y v u Q I rx ry h
  obtain ⟨i, j, rfl, rfl, hc, q⟩ := h
  obtain ⟨t, rfl⟩ := rx
  obtain ⟨t', rfl⟩ := ry
  exact rule i j t t' s _ _ hc ⟨.int (g i j), H, I.tok _, ⟨_, rfl⟩, q⟩
theorem opI0 {f : Value → Value → Sem Value} {g : Int → Int → Int}
    (rule : ∀ (i j : Int) (t u : Tok) (s : Shared) (Q : Value → Shared → Prop) (E : Value → Shared → Prop), Q (.int (g i j) s.toks) { s with toks := s.toks + 1 } → wpAny (model X.prog X.w) X.A (f (.int i t) (.int j u)) Q E s) :
    OpR X f (rI0 fun i j => .int (g i j)) := by
  intro pins s σ H x y v u Q I rx ry h
  obtain ⟨i, j, rfl, rfl, q⟩ := h
  obtain ⟨t, rfl⟩ := rx
  obtain ⟨t', rfl⟩ := ry
  exact rule i j t t' s _ _ ⟨.int (g i j), H, I.tok _, ⟨_, rfl⟩, q⟩
theorem opB0 {f : Value → Value → Sem Value} {g : Int → Int → Bool}
    (rule : ∀ (i j : Int) (t u : Tok) (s : Shared) (Q : Value → Shared → Prop) (E : Value → Shared → Prop), Q (.bool (g i j)) s → wpAny (model X.prog X.w) X.A (f (.int i t) (.int j u)) Q E s) :
    OpR X f (rI0 fun i j => .bl (g i j)) := by
  intro pins s σ H x y v u Q I rx ry h
  obtain ⟨i, j, rfl, rfl, q⟩ := h
  obtain ⟨t, rfl⟩ := rx
  obtain ⟨t', rfl⟩ := ry
  exact rule i j t t' s _ _ ⟨.bl (g i j), H, I, rfl, q⟩

def CPow (i j : Int) : Prop := 0 ≤ j ∧ j ≤ 1000000 ∧ i.natAbs < 2 ^ 64
def CMul (i j : Int) : Prop := (-(2 ^ 64) < i ∧ i < 2 ^ 64) ∨ (-(2 ^ 64) < j ∧ j < 2 ^ 64)
theorem CMul.ok {i j : Int} (h : CMul i j) : IntMulOk i j := by
  rcases h with ⟨h1, h2⟩ | ⟨h1, h2⟩
  · exact .of_left (intBits_le_64 h1 h2)
  · exact .of_right (intBits_le_64 h1 h2)
theorem op_add : OpR X (binaryOp .Add) (rI0 fun i j => .int (i + j)) := opI0 fun _ _ _ _ _ _ _ q => add_int q
theorem op_mod : OpR X (binaryOp .Mod) (rI (fun _ j => 0 < j) fun i j => .int (i % j)) := opI fun i j _ _ _ _ _ hc q => by
  have h1 : (0 : Int) < j := hc
  exact mod_int' (by omega) (by rw [Int.fmod_eq_emod_of_nonneg i (by omega)]; exact q)
theorem op_pow : OpR X (binaryOp .Pow) (rI CPow fun i j => .int (i ^ j.toNat)) := opI fun _ _ _ _ _ _ _ hc q => pow_int_small hc.1 hc.2.1 hc.2.2 q
theorem unI {f : Value → Sem Value} {g : Int → Int}
    (rule : ∀ (i : Int) (t : Tok) (s : Shared) (Q : Value → Shared → Prop) (E : Value → Shared → Prop), Q (.int (g i) s.toks) { s with toks := s.toks + 1 } → wpAny (model X.prog X.w) X.A (f (.int i t)) Q E s) :
    UnR X f (rU fun i => .int (g i)) := by
  intro pins s σ H x v Q I rx h
  obtain ⟨i, rfl, q⟩ := h
  obtain ⟨t, rfl⟩ := rx
  exact rule i t s _ _ ⟨.int (g i), H, I.tok _, ⟨_, rfl⟩, q⟩
theorem un_neg : UnR X (unaryOp .USub) (rU fun i => .int (-i)) := unI fun _ _ _ _ _ q => neg_int q
end

def scal : V → V → Bool
  | .non, .non => true | .non, .int _ => true | .int _, .non => true | .non, .bl _ => true | .bl _, .non => true | .non, .str _ => true | .str _, .non => true
  | .int _, .int _ => true | .bl _, .bl _ => true | .str _, .str _ => true | .byt _, .byt _ => true
  | .int _, .str _ => true | .str _, .int _ => true | .bl _, .str _ => true | .str _, .bl _ => true
  | _, _ => false
def rEq : R2 := fun x y H Q => scal x y = true ∧ Q (.bl (decide (x = y))) H
def rNe : R2 := fun x y H Q => scal x y = true ∧ Q (.bl (!decide (x = y))) H

theorem dec_int {i j : Int} : decide (V.int i = V.int j) = (i == j) := by
  rw [Bool.eq_iff_iff]
  simp
theorem dec_bl {i j : Bool} : decide (V.bl i = V.bl j) = (i == j) := by
  rw [Bool.eq_iff_iff]
  simp
theorem dec_str {i j : Str} : decide (V.str i = V.str j) = (i == j) := by
  rw [Bool.eq_iff_iff]
  simp
theorem dec_byt {i j : Array UInt8} : decide (V.byt i = V.byt j) = (i.toList == j.toList) := by
  rw [Bool.eq_iff_iff]
  cases i
  cases j
  simp

section
variable {X : Cx} {a b c : Expr} {ta tb tc : TE} {pos : Pos}
theorem fin_bl {pins : List (Addr × Obj)} {σ : St} {H : Hp} {s : Shared} {Q : VK} {k k' : Bool} (I : Inv X pins σ H s) (q : Q (.bl k) H) (e : k = k') : EP X pins σ Q (.bool k') s := by
  subst e
  exact ⟨.bl k, H, I, rfl, q⟩
theorem op_eq : OpR X (compareOp .Eq) rEq := by
  intro pins s σ H x y v u Q I rx ry h
  obtain ⟨hs, q⟩ := h
  cases x with
  | non =>
    cases rx
    cases y with
    | non => cases ry; exact PySem.EqNone.eq_none_none (fin_bl I q (by simp))
    | bl j => cases ry; exact PySem.EqNone.eq_none_bool (fin_bl I q (by simp))
    | int j => obtain ⟨t', rfl⟩ := ry; exact PySem.EqNone.eq_none_int (fin_bl I q (by simp))
    | str j => obtain ⟨t', rfl⟩ := ry; exact PySem.EqNone.eq_none_str (fin_bl I q (by simp))
    | _ => exact absurd (show false = true from hs) Bool.false_ne_true
  | bl i =>
    cases rx
    cases y with
    | non => cases ry; exact PySem.EqNone.eq_bool_none (fin_bl I q (by simp))
    | bl j => cases ry; exact eq_bool (fin_bl I q dec_bl)
    | str j => obtain ⟨t', rfl⟩ := ry; exact PySem.EqMixed.eq_bool_str (fin_bl I q (by simp))
    | _ => exact absurd (show false = true from hs) Bool.false_ne_true
  | int i =>
    obtain ⟨t, rfl⟩ := rx
    cases y with
    | non => cases ry; exact PySem.EqNone.eq_int_none (fin_bl I q (by simp))
    | int j => obtain ⟨t', rfl⟩ := ry; exact eq_int (fin_bl I q dec_int)
    | str j => obtain ⟨t', rfl⟩ := ry; exact PySem.EqMixed.eq_int_str (fin_bl I q (by simp))
    | _ => exact absurd (show false = true from hs) Bool.false_ne_true
  | str i =>
    obtain ⟨t, rfl⟩ := rx
    cases y with
    | non => cases ry; exact PySem.EqNone.eq_str_none (fin_bl I q (by simp))
    | bl j => cases ry; exact PySem.EqMixed.eq_str_bool (fin_bl I q (by simp))
    | int j => obtain ⟨t', rfl⟩ := ry; exact PySem.EqMixed.eq_str_int (fin_bl I q (by simp))
    | str j => obtain ⟨t', rfl⟩ := ry; exact eq_str (fin_bl I q dec_str)
    | _ => exact absurd (show false = true from hs) Bool.false_ne_true
  | byt i =>
    obtain ⟨t, rfl⟩ := rx
    cases y with
    | byt j => obtain ⟨t', rfl⟩ := ry; exact PySem.W.eq_bytes (fin_bl I q dec_byt)
    | _ => exact absurd (show false = true from hs) Bool.false_ne_true
  | _ => cases y <;> exact absurd (show false = true from hs) Bool.false_ne_true
theorem op_ne : OpR X (compareOp .NotEq) rNe := by
  intro pins s σ H x y v u Q I rx ry h
  obtain ⟨hs, q⟩ := h
  cases x with
  | non =>
    cases rx
    cases y with
    | non => cases ry; exact PySem.EqNone.ne_none_none (fin_bl I q (by simp))
    | bl j => cases ry; exact PySem.EqNone.ne_none_bool (fin_bl I q (by simp))
    | int j => obtain ⟨t', rfl⟩ := ry; exact PySem.EqNone.ne_none_int (fin_bl I q (by simp))
    | str j => obtain ⟨t', rfl⟩ := ry; exact PySem.EqNone.ne_none_str (fin_bl I q (by simp))
    | _ => exact absurd (show false = true from hs) Bool.false_ne_true
  | bl i =>
    cases rx
    cases y with
    | non => cases ry; exact PySem.EqNone.ne_bool_none (fin_bl I q (by simp))
    | bl j => cases ry; exact ne_bool (fin_bl I q (congrArg not dec_bl))
    | str j => obtain ⟨t', rfl⟩ := ry; exact PySem.EqMixed.ne_bool_str (fin_bl I q (by simp))
    | _ => exact absurd (show false = true from hs) Bool.false_ne_true
  | int i =>
    obtain ⟨t, rfl⟩ := rx
    cases y with
    | non => cases ry; exact PySem.EqNone.ne_int_none (fin_bl I q (by simp))
    | int j => obtain ⟨t', rfl⟩ := ry; exact ne_int (fin_bl I q (congrArg not dec_int))
    | str j => obtain ⟨t', rfl⟩ := ry; exact PySem.EqMixed.ne_int_str (fin_bl I q (by simp))
    | _ => exact absurd (show false = true from hs) Bool.false_ne_true
  | str i =>
    obtain ⟨t, rfl⟩ := rx
    cases y with
    | non => cases ry; exact PySem.EqNone.ne_str_none (fin_bl I q (by simp))
    | bl j => cases ry; exact PySem.EqMixed.ne_str_bool (fin_bl I q (by simp))
    | int j => obtain ⟨t', rfl⟩ := ry; exact PySem.EqMixed.ne_str_int (fin_bl I q (by simp))
    | str j => obtain ⟨t', rfl⟩ := ry; exact ne_str (fin_bl I q (congrArg not dec_str))
    | _ => exact absurd (show false = true from hs) Bool.false_ne_true
  | byt i =>
    obtain ⟨t, rfl⟩ := rx
    cases y with
    | byt j => obtain ⟨t', rfl⟩ := ry; exact PySem.W.ne_bytes (fin_bl I q (congrArg not dec_byt))
    | _ => exact absurd (show false = true from hs) Bool.false_ne_true
  | _ => cases y <;> exact absurd (show false = true from hs) Bool.false_ne_true

theorem op_lt : OpR X (compareOp .Lt) (rI0 fun i j => .bl (decide (i < j))) := opB0 fun _ _ _ _ _ _ _ q => lt_int q
theorem op_le : OpR X (compareOp .LtE) (rI0 fun i j => .bl (decide (i ≤ j))) := opB0 fun _ _ _ _ _ _ _ q => le_int q
theorem op_gt : OpR X (compareOp .Gt) (rI0 fun i j => .bl (decide (j < i))) := opB0 fun _ _ _ _ _ _ _ q => gt_int q
theorem op_in_str : OpR X (compareOp .In) (fun x y H Q => ∃ i j, x = .str i ∧ y = .str j ∧ Q (.bl (!(Builtin.Str.occurrences j i 0 j.length 1).isEmpty)) H) := by
  intro pins s σ H x y v u Q I rx ry h
  obtain ⟨i, j, rfl, rfl, q⟩ := h
  obtain ⟨t, rfl⟩ := rx
  obtain ⟨t', rfl⟩ := ry
  exact in_str (fin_bl I q rfl)

theorem op_isN : OpR X (compareOp .Is) (fun x y H Q => y = .non ∧ Q (.bl (decide (x = .non))) H) := by
  intro pins s σ H x y v u Q I rx ry h
  obtain ⟨rfl, q⟩ := h
  cases ry
  refine is_none_gen (fin_bl I q ?_)
  cases x <;> first
    | (cases rx; rfl)
    | (obtain ⟨t, rfl⟩ := rx; rfl)
theorem OpR.or {f : Value → Value → Sem Value} {r r' : R2} (h : OpR X f r) (h' : OpR X f r') : OpR X f (fun x y H Q => r x y H Q ∨ r' x y H Q) := by
  intro pins s σ H x y v u Q I rx ry q
  rcases q with q | q
  · exact h pins s σ H x y v u Q I rx ry q
  · exact h' pins s σ H x y v u Q I rx ry q

theorem nomark (b : Expr) {op : CmpOp} (h : op ≠ .In := by decide) (h2 : op ≠ .NotIn := by decide) : behindInMarks op b = false := by
  have e1 : (op == CmpOp.In) = false := by cases op <;> first | rfl | exact absurd rfl h
  have e2 : (op == CmpOp.NotIn) = false := by cases op <;> first | rfl | exact absurd rfl h2
  cases b <;> simp [behindInMarks, e1, e2]
theorem pe_cmpR {op : CmpOp} {r : R2} (ho : OpR X (compareOp op) r) (ha : PE X a ta) (hb : PE X b tb) (hm : behindInMarks op b = false) : PE X (.Compare a [op] [b] pos) (tOp r ta tb) := by
  intro pins s σ H Q I h
  exact wpAny_Compare1 (binT ha hb I h fun v u s2 x y H2 I2 rx ry q => ho pins s2 σ H2 x y v u Q I2 rx ry q) hm
def TruV (K : PySem.W.Frag) (x : V) (H : Hp) (k : Bool) : Prop :=
  match x with
  | .non => k = false
  | .bl b => k = b
  | .int i => k = (i != 0)
  | .str y => y.length ≤ sizeLine ∧ k = ((y.length : Int) != 0)
  | .byt y => y.size ≤ sizeLine ∧ k = ((y.size : Int) != 0)
  | .ref p => (∃ xs, SqL K H p xs ∧ k = !xs.isEmpty) ∨ (∃ xs, SqT K H p xs ∧ k = !xs.isEmpty) ∨ ∃ kvs, H p = some (.dK kvs) ∧ k = !kvs.isEmpty
  | _ => False
theorem isEmpty_kv {κ : Type} {kvs : List (κ × V)} {vs : List (κ × Value)} (r : KV kvs vs) : (!vs.isEmpty) = !kvs.isEmpty := by
  cases r <;> rfl
theorem isEmpty_of {xs : List V} {its : List Value} (r : Vals xs its) : (!its.toArray.isEmpty) = !xs.isEmpty := by
  cases r <;> simp
theorem line63 : (sizeLine : Nat) < 2 ^ 63 := by rw [sizeLine_eq]; decide
theorem tru_ok : TruR X (fun x H Q => ∃ k, TruV X.K x H k ∧ Q k H) := by
  intro pins s σ H x v Q I rx h
  obtain ⟨k, e, q⟩ := h
  have hl := line63
  have hs : sizeLine = 16777216 := sizeLine_eq
  cases x with
  | non =>
    cases rx
    have e' : k = false := e
    subst e'
    exact truthy_none ⟨H, I, q⟩
  | bl b =>
    cases rx
    have e' : k = b := e
    subst e'
    exact wpAny_truthy_bool ⟨H, I, q⟩
  | int i =>
    obtain ⟨t, rfl⟩ := rx
    have e' : k = (i != 0) := e
    subst e'
    exact PySem.P.truthy_int ⟨H, I, q⟩
  | str y =>
    obtain ⟨t, rfl⟩ := rx
    obtain ⟨hy, e'⟩ : y.length ≤ sizeLine ∧ k = ((y.length : Int) != 0) := e
    subst e'
    exact PySem.P.truthy_str (by omega) ⟨H, I.tok _, q⟩
  | byt y =>
    obtain ⟨t, rfl⟩ := rx
    obtain ⟨hy, e'⟩ : y.size ≤ sizeLine ∧ k = ((y.size : Int) != 0) := e
    subst e'
    exact PySem.W.truthy_bytes (by omega) ⟨H, I.tok _, q⟩
  | ref p =>
    cases rx
    have e' : (∃ xs, SqL X.K H p xs ∧ k = !xs.isEmpty) ∨ (∃ xs, SqT X.K H p xs ∧ k = !xs.isEmpty) ∨ ∃ kvs, H p = some (.dK kvs) ∧ k = !kvs.isEmpty := e
    rcases e' with ⟨xs, hx, e'⟩ | ⟨xs, hx, e'⟩ | ⟨kvs, hx, e'⟩
    · subst e'
      obtain ⟨its, r, pl, hz⟩ := I.list hx
      have hlen := r.length
      exact wpAny_truthy_list pl.isList (by simp only [List.size_toArray]; omega) ⟨H, I.tok _, by rw [isEmpty_of r]; exact q⟩
    · subst e'
      obtain ⟨its, r, pl, hz⟩ := I.tuple hx
      have hlen := r.length
      exact truthy_tuple pl (by simp only [List.size_toArray]; omega) ⟨H, I.tok _, by rw [isEmpty_of r]; exact q⟩
    · subst e'
      obtain ⟨hz, hS, vs, r, m⟩ : kvs.length ≤ sizeLine ∧ (p == sysModules) = false ∧ ∃ vs, KV kvs vs ∧ s.heap.DictOf (mixKind X.prog X.w) p vs := I.hok p _ hx
      have hlen : kvs.length = vs.length := Paired.length r
      exact wpAny_truthy_dict hS m (by omega) ⟨H, I.tok _, by rw [isEmpty_kv r]; exact q⟩
  | _ => exact (show False from e).elim
theorem op_add_str : OpR X (binaryOp .Add) (fun x y H Q => ∃ i j, x = .str i ∧ y = .str j ∧ i.length + j.length ≤ sizeLine ∧ Q (.str (i ++ j)) H) := by
  intro pins s σ H x y v u Q I rx ry h
  obtain ⟨i, j, rfl, rfl, hz, q⟩ := h
  obtain ⟨t, rfl⟩ := rx
  obtain ⟨t', rfl⟩ := ry
  exact add_str (fun t' tk => ⟨.str (i ++ j), H, I.tok _, ⟨_, rfl⟩, q⟩) hz
theorem vals1 {x : V} {us : List Value} (r : Vals [x] us) : ∃ u, us = [u] ∧ RelV x u := by
  cases r with
  | cons r1 r2 => cases r2; exact ⟨_, rfl, r1⟩
theorem vals2 {x y : V} {us : List Value} (r : Vals [x, y] us) : ∃ u w', us = [u, w'] ∧ RelV x u ∧ RelV y w' := by
  cases r with
  | cons r1 r2 =>
    cases r2 with
    | cons r3 r4 => cases r4; exact ⟨_, _, rfl, r1, r3⟩
theorem call_max2 (hc : X.calm = true) : CallR X (.builtin "max") (fun xs H Q => ∃ i j, xs = [.int i, .int j] ∧ Q (.int (if j > i then j else i)) H) := by
  intro pins s σ H xs us Q I r h
  obtain ⟨i, j, rfl, q⟩ := h
  obtain ⟨u, w', rfl, ⟨t, rfl⟩, ⟨t', rfl⟩⟩ := vals2 r
  refine max_two_ints (I.ok.hd hc) fun h' tk k => ⟨_, H, I.kept k, ?_, q⟩
  by_cases hj : j > i
  · rw [if_pos hj, if_pos hj]; exact ⟨_, rfl⟩
  · rw [if_neg hj, if_neg hj]; exact ⟨_, rfl⟩
theorem call_str_int : CallR X (.type "str") (fun xs H Q => ∃ i, xs = [.int i] ∧ i.natAbs.log2 < 1920 ∧ Q (.str (toString i)) H) := by
  intro pins s σ H xs us Q I r h
  obtain ⟨i, rfl, hz, q⟩ := h
  obtain ⟨u, rfl, t, rfl⟩ := vals1 r
  exact PySem.P.str_of_int hz ⟨.str _, H, I.tok _, ⟨_, rfl⟩, q⟩
def LenV (K : PySem.W.Frag) (x : V) (H : Hp) (n : Nat) : Prop :=
  match x with
  | .str y => y.length ≤ sizeLine ∧ n = y.length
  | .byt y => y.size ≤ sizeLine ∧ n = y.size
  | .ref p => (∃ xs, SqL K H p xs ∧ n = xs.length) ∨ ∃ xs, SqT K H p xs ∧ n = xs.length
  | _ => False
theorem call_len : CallR X (.builtin "len") (fun xs H Q => ∃ x n, xs = [x] ∧ LenV X.K x H n ∧ Q (.int n) H) := by
  intro pins s σ H xs us Q I r h
  obtain ⟨x, n, rfl, e, q⟩ := h
  obtain ⟨u, rfl, rx⟩ := vals1 r
  have hl := line63
  have hs : sizeLine = 16777216 := sizeLine_eq
  cases x with
  | str y =>
    obtain ⟨t, rfl⟩ := rx
    obtain ⟨hy, e'⟩ : y.length ≤ sizeLine ∧ n = y.length := e
    subst e'
    exact len_str (by omega) ⟨.int _, H, I.tok _, ⟨_, rfl⟩, q⟩
  | byt y =>
    obtain ⟨t, rfl⟩ := rx
    obtain ⟨hy, e'⟩ : y.size ≤ sizeLine ∧ n = y.size := e
    subst e'
    exact PySem.W.len_bytes (by omega) ⟨.int _, H, I.tok _, ⟨_, rfl⟩, q⟩
  | ref p =>
    cases rx
    have e' : (∃ xs, SqL X.K H p xs ∧ n = xs.length) ∨ ∃ xs, SqT X.K H p xs ∧ n = xs.length := e
    rcases e' with ⟨xs, hx, e'⟩ | ⟨xs, hx, e'⟩
    · subst e'
      obtain ⟨its, r', pl, hz⟩ := I.list hx
      have hlen := r'.length
      exact Calls.call_len_list pl.isList (by simp only [List.size_toArray]; omega) ⟨.int xs.length, H, I.tok _, ⟨_, by simp only [List.size_toArray]; rw [hlen]⟩, q⟩
    · subst e'
      obtain ⟨its, r', pl, hz⟩ := I.tuple hx
      have hlen := r'.length
      exact len_tuple pl (by simp only [List.size_toArray]; omega) ⟨.int xs.length, H, I.tok _, ⟨_, by simp only [List.size_toArray]; rw [hlen]⟩, q⟩
  | _ => exact (show False from e).elim
end
end L2

namespace L2
open PySem PySem.Spec PyProof.Rows

structure ObjM (h : Heap) (x dx C : Addr) (mA : Str → Option Value) : Prop where
  obj : h.get? x = some (PySem.W.instObj C dx)
  ns : h.Ns1 dx mA
  ne : dx ≠ x

theorem lookIn_ns {h : Heap} {dx : Addr} {mA : Str → Option Value} (n : h.Ns1 dx mA) : ∃ od, h.get? dx = some od ∧ ∀ name, PySem.W.lookIn name od = some (mA name) := by
  obtain ⟨o, es, ep, ho, hd, hk, _, hm⟩ := n
  refine ⟨o, ho, fun name => ?_⟩
  have e := hm name
  unfold nsFind findBy at e
  rw [← Array.find?_toList] at e
  unfold PySem.W.lookIn
  rw [hd]
  dsimp only
  split
  · rename_i y q
    rw [q] at e
    exact congrArg some e
  · rename_i q
    rw [q] at e
    have a : es.toList.any (·.refKey) = false := by
      rw [List.any_eq_false]
      intro y hy
      obtain ⟨z, t, hkey⟩ := hk y (Array.mem_toList_iff.mp hy)
      simp [DictEntry.refKey, hkey]
    have a' : ¬ es.toList.any (·.refKey) = true := by rw [a]; exact Bool.false_ne_true
    rw [if_neg a']
    exact congrArg some e

theorem ObjM.look {h : Heap} {x dx C : Addr} {mA : Str → Option Value} (I : ObjM h x dx C mA) : ∃ od, PySem.W.InstAt h x (PySem.W.instObj C dx) C (some od) ∧ ∀ name, PySem.W.lookIn name od = some (mA name) :=
  let ⟨od, ho, hl⟩ := lookIn_ns I.ns
  ⟨od, ⟨I.obj, rfl, rfl, ho⟩, hl⟩

section
variable {prog : Program} {w : World} {A : Around} {E : Value → Shared → Prop} {s : Shared} {K : PySem.W.Frag} {x dx C f : Addr} {mA : Str → Option Value} {name : Str} {v : Value}

end

theorem RelO.some_of {v : V} {o : Option Value} (r : RelO (some v) o) : ∃ u, o = some u ∧ RelV v u := by
  cases o with
  | none => exact (show False from r).elim
  | some u => exact ⟨u, rfl, r⟩
theorem RelO.none_of {o : Option Value} (r : RelO none o) : o = none := by
  cases o with
  | none => rfl
  | some u => exact (show False from r).elim
section
variable {P : Program} {w : World} {H H' : Hp} {h h' : Heap} {a C dx : Addr} {fs fs' : List (Str × V)}
theorem ins_get (hok : HOk P w H h) (e : H a = some (.ins C dx fs)) : ∃ mA, ObjM h a dx C mA ∧ (∀ f, RelO (fs.lookup f) (mA f)) ∧ PySem.Within mA (fs.map (·.1)) ∧ fs.length ≤ 1000 ∧ H dx = some (.own a) := by
  obtain ⟨d, z, ne, ob, mA, n, r, q⟩ := (show ObjOk P w H h a (.ins C dx fs) from hok a _ e)
  exact ⟨mA, ⟨ob, n, ne⟩, r, q, z, d⟩
end

structure Cls (K : PySem.W.Frag) (C : Addr) : Prop where
  pg : PySem.W.plainGet K C Str.empty = true
  hd : PySem.W.hasDictIn K C = true
  po : PySem.W.plainOver K C = true
  sa : PySem.W.findIn K (.ref C) "__setattr__" = some (some (.builtin "object.__setattr__"))
theorem Cls.get {K : PySem.W.Frag} {C : Addr} (c : Cls K C) (f : Str) : PySem.W.plainGet K C f = true := c.pg
structure Con (K : PySem.W.Frag) (C : Addr) (f : Str) (v : V) (u : Value) : Prop where
  at_ : PySem.W.findIn K (.ref C) f = some (some u)
  rel : RelV v u
  get : PySem.W.specialIn K u "__get__" = some none
  cp : PySem.W.copiedNames.contains f = false
structure Meth (K : PySem.W.Frag) (C : Addr) (m : Str) (f : Addr) : Prop where
  at_ : PySem.W.findIn K (.ref C) m = some (some (.ref f))
  fn : PySem.W.isFn K (.ref f) = true
  kp : PySem.W.keepIn K (.ref f) = true

section
variable {X : Cx} {pins : List (Addr × Obj)} {σ : St} {H : Hp} {s : Shared} {a C dx : Addr} {fs : List (Str × V)} {f : Str} {v : V} {A : Around} {E : Value → Shared → Prop}

theorem Inv.made (I : Inv X pins σ H s) : Inv X pins σ (upd (upd H s.heap.objs.size (.own (s.heap.objs.size + 1))) (s.heap.objs.size + 1) (.ins C s.heap.objs.size []))
    { s with heap := (s.heap.push PySem.W.emptyDict).push (PySem.W.instObj C s.heap.objs.size) } := by
  have e1 : (s.heap.push PySem.W.emptyDict).get? s.heap.objs.size = some PySem.W.emptyDict := Heap.get?_push_size s.heap rfl
  have e2 : ((s.heap.push PySem.W.emptyDict).push (PySem.W.instObj C s.heap.objs.size)).get? (s.heap.objs.size + 1) = some (PySem.W.instObj C s.heap.objs.size) := by
    have := Heap.get?_push_size (s.heap.push PySem.W.emptyDict) (o := PySem.W.instObj C s.heap.objs.size) rfl
    rwa [Heap.size_push] at this
  have e3 : (s.heap.push PySem.W.emptyDict).Ns s.heap.objs.size (fun _ => none) := ⟨PySem.W.emptyDict, #[], _, e1, rfl, (fun e he => absurd he (by simp)), fun _ => rfl⟩
  have I1 := I.laid (a := s.heap.objs.size) (o := .own (s.heap.objs.size + 1)) (h' := s.heap.push PySem.W.emptyDict) (t' := s.toks) (fun b u q => Heap.get?_push_of_some _ q) (Nat.le_refl _) ⟨_, e1⟩
  refine I1.laid (a := s.heap.objs.size + 1) (o := .ins C s.heap.objs.size []) (t' := s.toks) (fun b u q => Heap.get?_push_of_some _ q) (Nat.le_of_eq (Heap.size_push _ _)) ?_
  have ne : s.heap.objs.size ≠ s.heap.objs.size + 1 := Nat.ne_of_lt (Nat.lt_succ_self _)
  refine ⟨by rw [upd_ne ne, upd_same], Nat.zero_le _, ne, e2, fun _ => none, (Heap.Ns1.of_empty e3).at fun o q => Heap.get?_push_of_some _ q, fun _ => True.intro, fun y hy => absurd rfl hy⟩

end

section
variable {X : Cx} {o e value : Expr} {f : Str} {pos pos' tpos : Pos} {ta tv : TE}
end

section
variable {X : Cx} {pins : List (Addr × Obj)} {σ : St} {H : Hp} {s : Shared} {A : Around} {E : Value → Shared → Prop} {Q : Value → Shared → Prop} {c : Value} {b : Bool}
inductive TyOf (K : PySem.W.Frag) (H : Hp) : V → Value → Prop where
  | non : TyOf K H .non (.type "NoneType")
  | bl (x : Bool) : TyOf K H (.bl x) (.type "bool")
  | int (i : Int) : TyOf K H (.int i) (.type "int")
  | str (x : Str) : TyOf K H (.str x) (.type "str")
  | flt (x : UInt64) : TyOf K H (.flt x) (.type "float")
  | lst {a : Addr} {xs : List V} (e : H a = some (.lst xs)) : TyOf K H (.ref a) (.type "list")
  | frz {a : Addr} {o : Obj} {xs : List V} (e : H a = some (.frz o (.lst xs))) : TyOf K H (.ref a) (.type "list")
  | tup {a : Addr} {xs : List V} (e : H a = some (.tup xs)) : TyOf K H (.ref a) (.type "tuple")
  | dK {a : Addr} {kvs : List (Key × V)} (e : H a = some (.dK kvs)) : TyOf K H (.ref a) (.type "dict")
  | dT {a : Addr} {kvs : List (List Key × V)} (e : H a = some (.dT kvs)) : TyOf K H (.ref a) (.type "dict")
  | ins {a C dx : Addr} {fs : List (Str × V)} (e : H a = some (.ins C dx fs)) (cl : Cls K C) (ha : PySem.W.findIn K (.ref C) "__class__" = some (some (.builtin "object.__class__")))
      (hn : PySem.W.specialIn K (.builtin "object.__class__") "__get__" = some (some (.builtin "getset_descriptor.__get__"))) (htk : PySem.W.takesIn K (.builtin "object.__class__") = some true)
      (hm : PySem.W.mroIn K C (.type "object") = some true) : TyOf K H (.ref a) (.ref C)
theorem isinst_ok {x : V} {u t : Value} (I : Inv X pins σ H s) (rx : RelV x u) (ty : TyOf X.K H x t) (e : PySem.W.kitOne X.K t c = some b) (h : ∀ tk, Q (.bool b) { s with toks := tk }) :
    wpAny (model X.prog X.w) A (call (.builtin "isinstance") [u, c]) Q E s := by
  cases ty with
  | non => cases (show u = Value.none from rx); exact PySem.W.kia_one PySem.W.kitx_none I.kIn True.intro e (fun z => nomatch z) h
  | bl y => cases (show u = Value.bool y from rx); exact PySem.W.kia_one PySem.W.kitx_bool I.kIn True.intro e (fun z => nomatch z) h
  | int i => obtain ⟨t, q⟩ := (show ∃ t, u = Value.int i t from rx); cases q; exact PySem.W.kia_one PySem.W.kitx_int I.kIn True.intro e (fun z => nomatch z) h
  | str y => obtain ⟨t, q⟩ := (show ∃ t, u = Value.str y t from rx); cases q; exact PySem.W.kia_one PySem.W.kitx_str I.kIn True.intro e (fun z => nomatch z) h
  | flt y => obtain ⟨t, q⟩ := (show ∃ t, u = Value.float y t from rx); cases q; exact PySem.W.kia_one PySem.W.kitx_float I.kIn True.intro e (fun z => nomatch z) h
  | @lst a xs ea =>
    cases (show u = Value.ref a from rx)
    obtain ⟨_, _, n, _, h1⟩ := (show ObjOk X.prog X.w H s.heap a (.lst xs) from I.hok a _ ea)
    exact PySem.W.kia_one PySem.W.kitx_list I.kIn ⟨_, h1, rfl⟩ e (fun z => nomatch z) h
  | @frz a ob xs ea =>
    cases (show u = Value.ref a from rx)
    obtain ⟨_, _, _, n, _, h1⟩ := (show ObjOk X.prog X.w H s.heap a (.frz ob (.lst xs)) from I.hok a _ ea)
    exact PySem.W.kia_one PySem.W.kitx_list I.kIn ⟨_, h1, rfl⟩ e (fun z => nomatch z) h
  | @tup a xs ea =>
    cases (show u = Value.ref a from rx)
    obtain ⟨_, _, _, p⟩ := (show ObjOk X.prog X.w H s.heap a (.tup xs) from I.hok a _ ea)
    obtain ⟨o, h1, h2, _⟩ := p
    exact PySem.W.kia_one PySem.W.kitx_tuple I.kIn ⟨o, h1, h2⟩ e (fun z => nomatch z) h
  | @dK a kvs ea =>
    cases (show u = Value.ref a from rx)
    obtain ⟨_, _, vs, _, p⟩ := (show ObjOk X.prog X.w H s.heap a (.dK kvs) from I.hok a _ ea)
    obtain ⟨o, es, ep, h1, h2, _⟩ := p
    exact PySem.W.kia_one PySem.W.kitx_dict I.kIn ⟨o, h1, h2.1⟩ e (fun z => nomatch z) h
  | @dT a kvs ea =>
    cases (show u = Value.ref a from rx)
    obtain ⟨_, _, xs, _, o, es, ep, h1, h2, _⟩ := (show ObjOk X.prog X.w H s.heap a (.dT kvs) from I.hok a _ ea)
    exact PySem.W.kia_one PySem.W.kitx_dict I.kIn ⟨o, h1, h2.1⟩ e (fun z => nomatch z) h
  | @ins a C dx fs ea cl ha hn htk hm =>
    cases (show u = Value.ref a from rx)
    obtain ⟨mA, O, _⟩ := ins_get I.hok ea
    obtain ⟨od, J, _⟩ := O.look
    exact PySem.W.kia_one (PySem.W.kitx_own (cl.get _) cl.hd ha hn htk hm) I.kIn J e (fun z => nomatch z) h
end
end L2

namespace L2
open PySem PySem.Spec PyProof.Rows

structure Room (k : Nat) (A : Around) : Prop where
  hd : A.handled = none
  dp : A.depth + 3 * k + 5 < recursionLimit
  un : A.units + 16 * k + 200 < cLine
theorem Room.mono {j k : Nat} {A : Around} (r : Room k A) (h : j ≤ k) : Room j A := ⟨r.hd, by have := r.dp; omega, by have := r.un; omega⟩
theorem Room.deeper {k : Nat} {A : Around} (r : Room (k + 1) A) (env : Env) : Room k (A.deeper env) :=
  ⟨r.hd, by have := r.dp; show A.depth + 1 + 3 * k + 5 < _; omega, by have := r.un; show A.units + 3 + 16 * k + 200 < _; omega⟩
theorem Room.in1 {k : Nat} {A : Around} (r : Room (k + 1) A) : Room k A.in1 :=
  ⟨r.hd, by have := r.dp; show A.depth + 3 * k + 5 < _; omega, by have := r.un; show A.units + 1 + 16 * k + 200 < _; omega⟩
theorem make_depth {A : Around} {C : Addr} {us : List Value} {kw : List (Str × Value)} : (A.under (.builtin "type.__call__" ⟨.ref C :: us, kw⟩)).depth = A.depth + 1 := by
  first | rfl | simp [Around.under, Code.weight, Code.isCreation, Code.isGuard, Code.isCaller, Code.frames, Code.isFrame, guardIds]
theorem make_units {A : Around} {C : Addr} {us : List Value} {kw : List (Str × Value)} : (A.under (.builtin "type.__call__" ⟨.ref C :: us, kw⟩)).units = A.units + 1 := by
  first | rfl | simp [Around.under, Code.cUnits, Code.frames, Code.isFrame]
theorem Room.make {k : Nat} {A : Around} (r : Room (k + 1) A) (C : Addr) (us : List Value) (kw : List (Str × Value)) : Room k (A.under (.builtin "type.__call__" ⟨.ref C :: us, kw⟩)) :=
  ⟨r.hd, by have := r.dp; rw [make_depth]; omega, by have := r.un; rw [make_units]; omega⟩
theorem Room.depth {k : Nat} {A : Around} (r : Room k A) : A.depth < recursionLimit := by have := r.dp; omega
theorem Room.units {k : Nat} {A : Around} (r : Room k A) : A.units + 64 < cLine := by have := r.un; omega
def tNil : TA := fun _ H Q => Q [] H
def tCons (ta : TE) (tr : TA) : TA := fun σ H Q => ta σ H fun x H1 => tr σ H1 fun xs H2 => Q (x :: xs) H2
section
variable {X : Cx} {e : Expr} {es : List Expr} {te : TE} {t : TA} {pos : Pos}
theorem pa_nil : PA X [] tNil := fun _ _ _ _ H Q I h => Calls.spliced_nil ⟨[], H, I, .nil, h⟩
theorem pa_cons (ha : PE X e te) (hr : PA X es t) (hs : starEach (e :: es) X.env = (false, eval e X.env) :: starEach es X.env := by rfl) : PA X (e :: es) (tCons te t) := by
  intro pos pins s σ H Q I h
  rw [hs]
  show wpAny _ _ (spliced ((false, eval e X.env) :: backTo pos (starEach es X.env))) _ _ s
  refine Calls.spliced_cons (thn (ha pins s σ H _ I h) fun u s1 ⟨x, H1, I1, r1, q1⟩ => ?_)
  exact thn (hr pos pins s1 σ H1 _ I1 q1) fun us s2 ⟨xs, H2, I2, r2, q2⟩ => ⟨x :: xs, H2, I2, .cons r1 r2, q2⟩

def tTup (t : TA) : TE := fun σ H Q => t σ H fun xs H1 => xs.length ≤ sizeLine ∧ ∀ p, H1 p = none → Q (.ref p) (upd H1 p (.tup xs))
def tLst (t : TA) : TE := fun σ H Q => t σ H fun xs H1 => xs.length ≤ sizeLine ∧ ∀ p, H1 p = none → Q (.ref p) (upd H1 p (.lst xs))
theorem pe_tup {x1} (h : PA X es t) : PE X (.Tuple es x1 pos) (tTup t) := by
  intro pins s σ H Q I hq
  refine wpAny_Tuple_spliced (thn (h pos pins s σ H _ I hq) fun us s1 ⟨xs, H1, I1, r, z, q⟩ => ⟨by rw [← r.length]; exact z, ?_⟩)
  have hf : H1 s1.heap.objs.size = none := I1.hok.fresh (Nat.le_refl _)
  refine ⟨.ref s1.heap.objs.size, upd H1 s1.heap.objs.size (.tup xs), I1.laid (t' := s1.toks) (fun b u e => Heap.get?_push_of_some _ e) (Nat.le_refl _) ?_, rfl, q _ hf⟩
  exact ⟨z, us, r, ⟨_, Heap.get?_push_size _ rfl, rfl, _, rfl⟩⟩
theorem pe_lst (h : PA X es t) : PE X (.List es pos) (tLst t) := by
  intro pins s σ H Q I hq
  refine wpAny_List_spliced (thn (h pos pins s σ H _ I hq) fun us s1 ⟨xs, H1, I1, r, z, q⟩ => ⟨by rw [← r.length]; exact z, ?_⟩)
  have hf : H1 s1.heap.objs.size = none := I1.hok.fresh (Nat.le_refl _)
  refine ⟨.ref s1.heap.objs.size, upd H1 s1.heap.objs.size (.lst xs), I1.laid (t' := s1.toks) (fun b u e => Heap.get?_push_of_some _ e) (Nat.le_refl _) ?_, rfl, q _ hf⟩
  exact ⟨z, us, 0, r, Heap.get?_push_size _ rfl⟩
end

abbrev Sp := List V → Hp → VK → XK → Prop
abbrev CXT := List Env → Hp → Shared → XK → Value → Shared → Prop

structure Env0 (P : Program) (w : World) (K : PySem.W.Frag) (mg : Str → Option Value) (base : Heap) (A : Around) (outer : List Env) (s : Shared) (H : Hp) : Prop where
  frames : A.frames = some outer
  mod : Mod K mg base
  bs : ∀ b o, base.get? b = some o → s.heap.get? b = some o ∧ H b = none
  bsz : base.objs.size ≤ s.heap.objs.size
  funs : s.heap.FunFrames base outer
  frf : ∀ b ∈ frs outer, H b = none
  hok : HOk P w H s.heap
  bare : AllBare s.gens
def CE (outer : List Env) (P : Program) (w : World) (H : Hp) (s : Shared) (Q : VK) (u : Value) (s' : Shared) : Prop :=
  ∃ v H', s'.os = s.os ∧ AllBare s'.gens ∧ Un (frs outer) [] H H' s.heap s'.heap ∧ HOk P w H' s'.heap ∧ RelV v u ∧ Q v H'
def CR (CX : CXT) (outer : List Env) (P : Program) (w : World) (H : Hp) (s : Shared) (Q : VK) (E : XK) (r : Result) (s' : Shared) : Prop :=
  match r with
  | .ok (.ret u) => CE outer P w H s Q u s'
  | .ok _ => False
  | .error e => CX outer H s E e s'
structure FnOk (P : Program) (w : World) (K : PySem.W.Frag) (mg : Str → Option Value) (base : Heap) (CX : CXT) (k : Nat) (f : Addr) (fd : FuncData) (ps : List Str) (sp : Sp) : Prop where
  len : ∀ vs H Q E, sp vs H Q E → vs.length = ps.length
  run : ∀ (A : Around) (outer : List Env) (s : Shared) (H : Hp) (args : Args) (us : List Value) (vs : List V) (Q : VK) (E : XK), Room k A → Env0 P w K mg base A outer s H → BindsTo s fd args (ps.zip us) → Vals vs us → sp vs H Q E →
    codeAny (model P w) A (.call (.ref f) args) (CR CX outer P w H s Q E) s
theorem FnOk.mono {P : Program} {w : World} {K : PySem.W.Frag} {mg : Str → Option Value} {base : Heap} {CX : CXT} {j k : Nat} {f : Addr} {fd : FuncData} {ps : List Str} {sp : Sp} (F : FnOk P w K mg base CX j f fd ps sp) (h : j ≤ k) :
    FnOk P w K mg base CX k f fd ps sp := ⟨F.len, fun A outer s H args us vs Q E hr => F.run A outer s H args us vs Q E (hr.mono h)⟩
theorem FnOk.imp {P : Program} {w : World} {K : PySem.W.Frag} {mg : Str → Option Value} {base : Heap} {CX : CXT} {k : Nat} {f : Addr} {fd : FuncData} {ps : List Str} {sp sp' : Sp} (F : FnOk P w K mg base CX k f fd ps sp)
    (h : ∀ vs H Q E, sp' vs H Q E → sp vs H Q E) : FnOk P w K mg base CX k f fd ps sp' :=
  ⟨fun vs H Q E q => F.len vs H Q E (h _ _ _ _ q), fun A outer s H args us vs Q E hr he hb hv hs => F.run A outer s H args us vs Q E hr he hb hv (h _ _ _ _ hs)⟩

theorem Env0.make {P : Program} {w : World} {K : PySem.W.Frag} {mg : Str → Option Value} {base : Heap} {A : Around} {outer : List Env} {s : Shared} {H : Hp} (e : Env0 P w K mg base A outer s H) (C : Addr) (us : List Value) (kw : List (Str × Value)) :
    Env0 P w K mg base (A.under (.builtin "type.__call__" ⟨.ref C :: us, kw⟩)) outer s H := ⟨by first | exact e.frames | (simpa [Around.under, Code.envs, Code.isFrame, pushEnvs] using e.frames), e.mod, e.bs, e.bsz, e.funs, e.frf, e.hok, e.bare⟩
theorem Env0.in1 {P : Program} {w : World} {K : PySem.W.Frag} {mg : Str → Option Value} {base : Heap} {A : Around} {outer : List Env} {s : Shared} {H : Hp} (e : Env0 P w K mg base A outer s H) :
    Env0 P w K mg base A.in1 outer s H := ⟨e.frames, e.mod, e.bs, e.bsz, e.funs, e.frf, e.hok, e.bare⟩

section
variable {X : Cx} {pins : List (Addr × Obj)} {σ : St} {H : Hp} {s s' : Shared}
theorem Inv.env0 (I : Inv X pins σ H s) : Env0 X.prog X.w X.K X.mg X.base X.A X.stack s H :=
  ⟨I.ok.frames, I.ok.mod, I.bs, Nat.le_trans I.ok.bsz I.sz, I.stack, I.stkFree, I.hok, I.bare⟩
theorem Inv.after {Q : VK} {u : Value} (I : Inv X pins σ H s) (h : CE X.stack X.prog X.w H s Q u s') : EP X pins σ Q u s' := by
  obtain ⟨v, H', os, bare, un, hok, r, q⟩ := h
  obtain ⟨hh, g, d, t, os'⟩ := s'
  obtain rfl : os' = s.os := os
  exact ⟨v, H', I.call (h' := hh) (g' := g) (d' := d) (t' := t) (ch := []) un hok bare (fun b z => absurd z (by simp)), r, q⟩
end

def Binds (K : PySem.W.Frag) (fd : FuncData) (ps : List Str) (ds : List Value) : Prop :=
  ∀ (s : Shared) (us : List Value), K.In s.heap → (us ++ ds).length = ps.length → BindsTo s fd ⟨us, []⟩ (ps.zip (us ++ ds))
theorem Binds.all {K : PySem.W.Frag} {fd : FuncData} {ps : List Str} (h : ∀ us : List Value, us.length = ps.length → bindArgs fd ⟨us, []⟩ = pure (ps.zip us)) : Binds K fd ps [] := fun s us _ hl => by
  rw [List.append_nil] at hl ⊢
  exact .of_eq (h us hl)

section
variable {X : Cx} {CX : CXT} {k : Nat} {f C : Addr} {fd : FuncData} {ps : List Str} {sp : Sp} {dvs : List V} {ds : List Value} {E : XK} {x m : Str} {p pos apos : Pos} {e o : Expr} {es : List Expr} {ta : TE} {t : TA}

structure Mk (K : PySem.W.Frag) (C f : Addr) : Prop where
  makes : PySem.W.makesIn K C = true
  init : PySem.W.findIn K (.ref C) "__init__" = some (some (.ref f))
  fn : PySem.W.isFn K (.ref f) = true
  kp : PySem.W.keepIn K (.ref C) = true

end

section
variable {X : Cx} {CX : CXT} {k : Nat} {f C : Addr} {fd : FuncData} {ps ks : List Str} {sp : Sp} {E : XK} {x m : Str} {p pos apos kpos : Pos} {e o : Expr} {es : List Expr} {kws : List Keyword} {te ta : TE} {t tk : TA} {nm : Option Str}
structure KBinds (K : PySem.W.Frag) (fd : FuncData) (ps ks : List Str) (g : List Value → List Value → List Value) (gV : List V → List V → List V) : Prop where
  to : ∀ (s : Shared) (us ws : List Value), K.In s.heap → (g us ws).length = ps.length → BindsTo s fd ⟨us, ks.zip ws⟩ (ps.zip (g us ws))
  rel : ∀ {vs : List V} {us : List Value} {zs : List V} {ws : List Value}, Vals vs us → Vals zs ws → Vals (gV vs zs) (g us ws)
variable {g : List Value → List Value → List Value} {gV : List V → List V → List V}
end

structure FnScope (N P : List Str) (sc : Scope) : Prop where
  kind : sc.kind = .function
  co : sc.isCoroutine = false
  gen : sc.isGenerator = false
  nd : N.Nodup
  pre : N.take P.length = P
  par : ∀ x ∈ P, sc.names.lookup x = some .local ∨ sc.names.lookup x = some .cell
  nofree : ∀ y ∈ sc.names, y.2 ≠ .free

theorem bindL_out {kindOf : Str → Option NameKind} {x : Str} : ∀ {binds : List (Str × Value)} {m : Str → Option Value}, (∀ v, (x, v) ∉ binds) → bindL kindOf binds m x = m x
  | [], _, _ => rfl
  | (n, v) :: r, m, h => by
    unfold bindL
    rw [bindL_out fun w hw => h w (List.mem_cons_of_mem _ hw)]
    split
    · have : x ≠ n := by rintro rfl; exact h v List.mem_cons_self
      simp [this]
    · rfl
theorem bindC_out {kindOf : Str → Option NameKind} {x : Str} : ∀ {binds : List (Str × Value)} {m : Str → Option Value}, (∀ v, (x, v) ∉ binds) → bindC kindOf binds m x = m x
  | [], _, _ => rfl
  | (n, v) :: r, m, h => by
    unfold bindC
    rw [bindC_out fun w hw => h w (List.mem_cons_of_mem _ hw)]
    split
    · rfl
    · have : x ≠ n := by rintro rfl; exact h v List.mem_cons_self
      simp [this]
theorem bindL_get {kindOf : Str → Option NameKind} {x : Str} {v : Value} : ∀ {P : List Str} {vs : List Value} {i : Nat} {m : Str → Option Value}, P.Nodup → P[i]? = some x → vs[i]? = some v → kindOf x = some .local →
    bindL kindOf (P.zip vs) m x = some v
  | [], _, _, _, _, h, _, _ => by simp at h
  | _ :: _, [], _, _, _, _, h, _ => by simp at h
  | p :: P, w :: vs, 0, m, nd, h1, h2, hk => by
    simp at h1 h2; subst h1; subst h2
    show bindL kindOf ((p, w) :: P.zip vs) m p = _
    unfold bindL
    rw [bindL_out fun v hv => (List.nodup_cons.mp nd).1 (List.of_mem_zip hv).1, if_pos hk]
    simp
  | p :: P, w :: vs, i + 1, m, nd, h1, h2, hk => by
    show bindL kindOf ((p, w) :: P.zip vs) m x = _
    unfold bindL
    exact bindL_get (i := i) (List.nodup_cons.mp nd).2 (by simpa using h1) (by simpa using h2) hk
theorem bindC_get {kindOf : Str → Option NameKind} {x : Str} {v : Value} : ∀ {P : List Str} {vs : List Value} {i : Nat} {m : Str → Option Value}, P.Nodup → P[i]? = some x → vs[i]? = some v → kindOf x ≠ some .local →
    bindC kindOf (P.zip vs) m x = some v
  | [], _, _, _, _, h, _, _ => by simp at h
  | _ :: _, [], _, _, _, _, h, _ => by simp at h
  | p :: P, w :: vs, 0, m, nd, h1, h2, hk => by
    simp at h1 h2; subst h1; subst h2
    show bindC kindOf ((p, w) :: P.zip vs) m p = _
    unfold bindC
    rw [bindC_out fun v hv => (List.nodup_cons.mp nd).1 (List.of_mem_zip hv).1, if_neg hk]
    simp
  | p :: P, w :: vs, i + 1, m, nd, h1, h2, hk => by
    show bindC kindOf ((p, w) :: P.zip vs) m x = _
    unfold bindC
    exact bindC_get (i := i) (List.nodup_cons.mp nd).2 (by simpa using h1) (by simpa using h2) hk

def start (N : List Str) (vs : List V) : St := vs.map some ++ List.replicate (N.length - vs.length) none

def cxOf (CX : CXT) (P : Program) (w : World) (K : PySem.W.Frag) (mg : Str → Option Value) (base : Heap) (N : List Str) (qual : Str) (scope : Scope) (f : Addr) (cd : Value) (A : Around) (outer : List Env) (s : Shared) (H : Hp) (E : XK) : Cx where
  prog := P
  w := w
  K := K
  mg := mg
  base := base
  A := A.deeper (envOfC qual scope s.heap.objs.size f cd)
  N := N
  s₀ := s
  H₀ := H
  env := envOfC qual scope s.heap.objs.size f cd
  outer := outer
  stack := envOfC qual scope s.heap.objs.size f cd :: outer
  ex := []
  calm := true
  fn := fun _ => true
  pn := []
  xe := fun e s' => wpAny (model P w) (A.deeper (envOfC qual scope s.heap.objs.size f cd)) (leaving (envOfC qual scope s.heap.objs.size f cd) e) (fun _ s'' => CX outer H s E e s'') (fun e' s'' => CX outer H s E e' s'') s'

theorem cell_has {sc : Scope} {n : Nat} {x : Str} (h : sc.names.lookup x = some .cell) : ∃ c, (cellsFrom n sc.names []).lookup x = some c := by
  have q := PySem.W.cellsFrom_some sc.names n [] (.inl h)
  exact Option.isSome_iff_exists.mp q

theorem inv_start {CX : CXT} {P : Program} {w : World} {K : PySem.W.Frag} {mg : Str → Option Value} {base : Heap} {N ps : List Str} {qual : Str} {scope : Scope} {f : Addr} {cd : Value} {A : Around} {outer : List Env} {s s1 : Shared} {H : Hp} {E : XK} {us : List Value} {vs : List V}
    (S : FnScope N ps scope) (hd : A.handled = none) (e0 : Env0 P w K mg base A outer s H) (hl : vs.length = ps.length) (r : Vals vs us)
    (x : InCallC s s.heap.objs.size (bindL (envOfC qual scope s.heap.objs.size f cd).kindOf (ps.zip us) fun _ => none) (cellsFrom (s.heap.objs.size + 1) scope.names []) (bindC (envOfC qual scope s.heap.objs.size f cd).kindOf (ps.zip us) fun _ => none) s1) :
    Inv (cxOf CX P w K mg base N qual scope f cd A outer s H E) [] (start N vs) H s1 := by
  have hpl : ps.length ≤ N.length := by have := congrArg List.length S.pre; rw [List.length_take] at this; omega
  obtain ⟨h1, tk, rfl, hk⟩ := x.done
  have noA : ∀ b : Addr, b ∉ (cxOf CX P w K mg base N qual scope f cd A outer s H E).ex := fun b z => absurd (show b ∈ ([] : List Addr) from z) (by simp)
  refine ⟨⟨e0.mod, S.kind, rfl, rfl, Nat.le_refl _, fun y z c h1 h2 => ?_, fun y hy => ?_, fun y c _ h => ?_, fun _ => hd, Around.frames_deeper e0.frames, .inr ⟨rfl, rfl⟩, fun b z => absurd z (noA b), e0.bs, e0.bsz, fun b _ _ => noA b, fun b z => absurd z (noA b), e0.funs, e0.frf⟩,
    rfl, e0.bare, Un.kept hk, ⟨_, x.toInCall.ns, fun i y v h1 h2 h3 => ?_⟩, fun y c h => ⟨_, x.cell y c h⟩, e0.hok.fresh (Nat.le_refl _), fun y c h => ?_, fun p hp => absurd (show p ∈ ([] : List (Addr × Obj)) from hp) (by simp), e0.hok.kept hk, ?_⟩
  · exact name_of_addr x.apart (PySem.mem_of_lookup h1) (PySem.mem_of_lookup h2)
  · have hy : scope.names.lookup y = some .cell ∨ scope.names.lookup y = some .free := hy
    rcases hy with hy | hy
    · exact cell_has hy
    · exact absurd rfl (S.nofree _ (PySem.mem_of_lookup hy))
  · exact Nat.le_of_lt (x.above y c (PySem.mem_of_lookup h))
  · have hi : i < vs.length := by
      unfold start at h2
      by_cases hi : i < vs.length
      · exact hi
      · rw [List.getElem?_append_right (by simpa using hi)] at h2
        rw [List.getElem?_replicate] at h2
        split at h2 <;> cases h2
    have ha : vs[i]? = some v := by
      unfold start at h2
      rw [List.getElem?_append_left (by simpa using hi), List.getElem?_map] at h2
      cases e : vs[i]? with
      | none => rw [e] at h2; cases h2
      | some a => rw [e] at h2; cases h2; rfl
    obtain ⟨u, hu, rv⟩ := r.get ha
    have hp : ps[i]? = some y := by
      rw [← S.pre, List.getElem?_take_of_lt (by omega)]; exact h1
    have ndP : ps.Nodup := by rw [← S.pre]; exact S.nd.sublist (List.take_sublist _ _)
    refine ⟨u, rv, ?_⟩
    rcases S.par y (List.mem_of_getElem? hp) with k | k
    · exact .inl ⟨k, bindL_get ndP hp hu k⟩
    · obtain ⟨c, e⟩ := cell_has (n := s.heap.objs.size + 1) k
      refine .inr ⟨.inl k, c, e, ?_⟩
      have q := x.cell y c e
      rw [bindC_get ndP hp hu (by show scope.names.lookup y ≠ _; rw [k]; decide)] at q
      exact q
  · exact e0.hok.fresh (Nat.le_of_lt (x.above y c (PySem.mem_of_lookup h)))
  · unfold start
    show _ = N.length
    rw [List.length_append, List.length_map, List.length_replicate]
    omega

theorem fn_of {CX : CXT} {P : Program} {w : World} {K : PySem.W.Frag} {mg : Str → Option Value} {base : Heap} {k : Nat} {f : Addr} {name qual : Str} {params : Arguments} {body : List Stmt} {scope : Scope} {dV kV doc pm cdv ct oc : Value} {an od : Option Addr}
    {osl : Array (Option Value)} {N ps : List Str} {sp : Sp} (lk : K.lookup f = some ⟨oc, od, .func (PySem.W.fnOf name qual params body scope dV kV doc pm an cdv ct), osl⟩) (hcd : PySem.W.codeIn K cdv qual = true) (S : FnScope N ps scope)
    (len : ∀ vs H Q E, sp vs H Q E → vs.length = ps.length)
    (hbody : ∀ (A : Around) (outer : List Env) (s : Shared) (H : Hp) (vs : List V) (Q : VK) (E : XK), Room k (A.deeper (envOfC qual scope s.heap.objs.size f cdv)) → sp vs H Q E →
      ∃ t, PSs (cxOf CX P w K mg base N qual scope f cdv A outer s H E) body t ∧ t { nx := fun _ H' => Q .non H', rt := Q } (start N vs) H) :
    FnOk P w K mg base CX (k + 1) f (PySem.W.fnOf name qual params body scope dV kV doc pm an cdv ct) ps sp := by
  refine ⟨len, fun A outer s H args us vs Q E hr e0 hb r hsp => ?_⟩
  have hl := len _ _ _ _ hsp
  have KX : K.In s.heap := e0.mod.kin.keeps fun b o e => (e0.bs b o e).1
  have lim : s.heap.NoLimit := e0.mod.nolimit.keeps fun b o e => (e0.bs b o e).1
  have hkind : ∀ y ∈ ps.zip us, scope.names.lookup y.1 = some .local ∨ (scope.names.lookup y.1 = some .cell ∧ ((cellsFrom (s.heap.objs.size + 1) scope.names []).lookup y.1).isSome = true) := fun ⟨n, v⟩ hy => by
    rcases S.par n (List.of_mem_zip hy).1 with q | q
    · exact .inl q
    · exact .inr ⟨q, PySem.W.cellsFrom_some _ _ _ (.inl q)⟩
  refine codeAny_call_function hr.depth (KX _ _ lk) rfl S.co S.gen rfl (PySem.W.codeRec_of KX hcd) (hb _ _ _ _ ?_)
  refine wpAny_newFunctionEnv_cells S.kind hkind fun env he s1 x => ?_
  subst he
  refine ⟨lim.keeps x.toInCall.keep, codeAny_func ?_⟩
  obtain ⟨t, ht, hq⟩ := hbody A outer s H vs Q E (hr.deeper _) hsp
  have I : Inv (cxOf CX P w K mg base N qual scope f cdv A outer s H E) [] (start N vs) H s1 := inv_start S hr.hd e0 hl r x
  refine wpAny_mono (ht [] s1 (start N vs) H _ I hq) (fun fl s' hs => ?_) fun e s' hs => hs
  have fin : ∀ {σ' : St} {H' : Hp} {v : V} {u : Value}, Inv (cxOf CX P w K mg base N qual scope f cdv A outer s H E) [] σ' H' s' → RelV v u → Q v H' → CE outer P w H s Q u s' :=
    fun {σ' H' v u} J rv q => ⟨v, H', J.os, J.bare, J.base, J.hok, rv, q⟩
  cases fl with
  | ret u =>
    obtain ⟨v, σ', H', J, rv, q⟩ := hs
    exact fin J rv q
  | next =>
    obtain ⟨σ', H', J, q⟩ := hs
    exact fin (v := V.non) (u := Value.none) J rfl q
  | brk =>
    obtain ⟨_, _, _, q⟩ := hs
    exact False.elim q
  | cont =>
    obtain ⟨_, _, _, q⟩ := hs
    exact False.elim q
end L2

namespace L2
open PySem PySem.Spec PyProof.Rows
section
variable {X : Cx} {x : Str} {p pos : Pos} {e : Expr} {es : List Expr} {t : TA} {id T : String} {r : List V → Hp → VK → Prop}

def tCB (r : List V → Hp → VK → Prop) (t : TA) : TE := fun σ H Q => t σ H fun vs H1 => r vs H1 Q
theorem pe_callB (hc : CallR X (.builtin id) r) (hg : Gl X x) (hm : X.mg x = none) (hv : bootBuiltins x = some (.builtin id)) (ha : PA X (e :: es) t) (hn : x ≠ "__name__" := by decide) (hdb : (x == ("__debug__" : Str)) = false := by decide)
    (he : starEach (e :: es) X.env = (false, eval e X.env) :: starEach es X.env := by rfl) (hpl : (backTo pos (starEach es X.env)).any (·.1) = false := by rfl) : PE X (.Call (.Name x p) (e :: es) [] pos) (tCB r t) := by
  intro pins s σ H Q I h
  refine wpAny_Call_Name_kw (ld_blt I hg hm hv ?_ hn hdb)
  exact PyProof.Rows.callWith_builtin1 (thn (ha pos pins s σ H _ I h) fun us s1 ⟨vs, H1, I1, r1, q1⟩ => hc pins s1 σ H1 vs us Q I1 r1 q1) he hpl
theorem pe_callTy (hc : CallR X (.type T) r) (hg : Gl X x) (hm : X.mg x = none) (hv : bootBuiltins x = some (.type T)) (ha : PA X (e :: es) t) (hn : x ≠ "__name__" := by decide) (hdb : (x == ("__debug__" : Str)) = false := by decide)
    (he : starEach (e :: es) X.env = (false, eval e X.env) :: starEach es X.env := by rfl) (hpl : (backTo pos (starEach es X.env)).any (·.1) = false := by rfl) : PE X (.Call (.Name x p) (e :: es) [] pos) (tCB r t) := by
  intro pins s σ H Q I h
  refine wpAny_Call_Name_kw (ld_blt I hg hm hv ?_ hn hdb)
  exact PyProof.Rows.callWith_type1 (thn (ha pos pins s σ H _ I h) fun us s1 ⟨vs, H1, I1, r1, q1⟩ => hc pins s1 σ H1 vs us Q I1 r1 q1) he hpl
end
end L2

namespace HT
open PySem PyProof.Rows

section
open PySem.SeqAt
open PySem.AutoSeq1 (wpAny_loadPart')
open PySem.MeetsSeq PySem.MeetsSeq2 PySem.MeetsSeq3

end

section
variable {prog : Program} {w : World} {A : Around} {E : Value → Shared → Prop} {s : Shared}

theorem cat_tup {t b : Addr} {vs ws : List Value} {Q : Value → Shared → Prop} (ht : IsTup s.heap t vs.toArray) (hb : IsTup s.heap b ws.toArray) (hv : vs ≠ [])
    (h1 : ws = [] → Q (.ref t) s) (h2 : ws ≠ [] → Q (.ref s.heap.objs.size) { s with heap := s.heap.push { cls := .type "tuple", data := .seq (vs ++ ws).toArray } })
    (hsz : vs.length + ws.length ≤ sizeLine) : wpAny (model prog w) A (binaryOp .Add (.ref t) (.ref b)) Q E s := by
  obtain ⟨⟨cls, dd, data, sl⟩, ho, hc, n, hd⟩ := id ht
  obtain ⟨⟨cls2, dd2, data2, sl2⟩, ho2, hc2, n2, hd2⟩ := id hb
  simp only at hc hd hc2 hd2
  subst hc hd hc2 hd2
  have e : vs.toArray ++ ws.toArray = (vs ++ ws).toArray := by simp
  by_cases hw : ws = []
  · exact concat_meets ⟨_, ho, rfl⟩ ⟨_, ho2, rfl⟩ noFill_tuple_add seq_tuple_add PySem.F.slot_tuple_add PySem.F.entry_tuple_add (PySem.F.args_tuple_add_2 _ _)
      (tuple_addW1 t b vs.toArray ws.toArray n n2 dd dd2 sl sl2 (by simpa using hv) (by simp [hw])) ⟨ho, ho2, h1 hw⟩
  · refine concat_meets ⟨_, ho, rfl⟩ ⟨_, ho2, rfl⟩ noFill_tuple_add seq_tuple_add PySem.F.slot_tuple_add PySem.F.entry_tuple_add (PySem.F.args_tuple_add_2 _ _)
      (tuple_addW2 t b vs.toArray ws.toArray n n2 dd dd2 sl sl2 (by simpa using hv) (by simpa using hw) (by rw [List.size_toArray, List.size_toArray]; exact hsz)) ⟨ho, ho2, ?_⟩
    rw [e]
    exact h2 hw

def sIx (n d : Nat) : Option Int → Nat
  | none => d
  | some v => if v < 0 then (v + (n : Int)).toNat else min v.toNat n
theorem sIx_none (n d : Nat) : sIx n d none = d := rfl
theorem sIx_nat (n d k : Nat) : sIx n d (some (k : Int)) = min k n := by
  show (if (k : Int) < 0 then ((k : Int) + (n : Int)).toNat else min (k : Int).toNat n) = min k n
  rw [if_neg (by omega), Int.toNat_natCast]
theorem sIx_le (n d : Nat) (hd : d ≤ n) (o : Option Int) : sIx n d o ≤ n := by
  cases o with
  | none => exact hd
  | some v =>
    show (if v < 0 then (v + (n : Int)).toNat else min v.toNat n) ≤ n
    by_cases hv : v < 0
    · rw [if_pos hv]; omega
    · rw [if_neg hv]; exact Nat.min_le_right _ _
theorem clip_eq (v : Int) (n d : Nat) : (if v < 0 then max (v + (n : Int)) 0 else min v (n : Int)) = ((sIx n d (some v) : Nat) : Int) := by
  show (if v < 0 then max (v + (n : Int)) 0 else min v (n : Int)) = (((if v < 0 then (v + (n : Int)).toNat else min v.toNat n) : Nat) : Int)
  by_cases hv : v < 0
  · simp only [if_pos hv]; omega
  · simp only [if_neg hv]; omega
theorem adjust_gen (lo hi : Option Int) (n : Nat) : Builtin.Slice.sliceAdjust lo hi 1 (n : Int) = (((sIx n 0 lo : Nat) : Int), ((sIx n n hi : Nat) : Int)) := by
  have h1 : ¬ ((1 : Int) < 0) := by omega
  unfold Builtin.Slice.sliceAdjust
  simp only [h1, if_false]
  refine Prod.ext ?_ ?_
  · cases lo with
    | none => rfl
    | some v => exact clip_eq v n 0
  · cases hi with
    | none => rfl
    | some v => exact clip_eq v n n
theorem places_gen (i j : Nat) : Builtin.Slice.slicePlaces (i : Int) (j : Int) 1 = j - i := by
  unfold Builtin.Slice.slicePlaces
  have h1 : (1 : Int) > 0 := by omega
  simp only [h1, if_true, Int.ediv_one]
  split <;> omega
theorem slicePart_ {v : Value} {o : Option Int} {Q : Option Int → Shared → Prop} (p : IsPart v o) (h : Q o s) : wpAny (model prog w) A (Builtin.Slice.slicePartIndex v) Q E s := by
  cases p with
  | none => exact slicePart_none h
  | int i t => exact slicePart_int h
theorem sliceApplied_gen {sl : Addr} {vl vu : Value} {lo hi : Option Int} {n : Nat} {Q : Int × Int × Nat → Shared → Prop} (hs : s.heap.IsSliceOf sl vl vu .none) (pl : IsPart vl lo) (pu : IsPart vu hi)
    (h : Q (((sIx n 0 lo : Nat) : Int), 1, sIx n n hi - sIx n 0 lo) s) : wpAny (model prog w) A (Builtin.Slice.sliceApplied (.ref sl) (pure (n : Int))) Q E s := by
  obtain ⟨os, hos, hcs, hds⟩ := id hs
  unfold Builtin.Slice.sliceApplied Builtin.Slice.sliceFields
  refine wpAny_bind (wpAny_bind (wpAny_field hos hds (x := vl) rfl (wpAny_bind (wpAny_field hos hds (x := vu) rfl (wpAny_bind (wpAny_field hos hds (x := .none) rfl (wpAny_pure ?_)))))))
  refine wpAny_bind (slicePart_none ?_)
  show wpAny _ _ (if ((1 : Int) == 0) = true then _ else _) _ _ s
  rw [if_neg (by decide)]
  refine wpAny_bind (slicePart_ pl (wpAny_bind (slicePart_ pu (wpAny_bind (wpAny_pure ?_)))))
  show wpAny _ _ (match Builtin.Slice.sliceAdjust lo hi 1 (n : Int) with | (lo, hi) => pure (lo, (1 : Int), Builtin.Slice.slicePlaces lo hi 1)) _ _ s
  rw [adjust_gen lo hi n]
  show wpAny _ _ (pure (((sIx n 0 lo : Nat) : Int), (1 : Int), Builtin.Slice.slicePlaces ((sIx n 0 lo : Nat) : Int) ((sIx n n hi : Nat) : Int) 1)) _ _ s
  rw [places_gen]
  exact wpAny_pure h
theorem pick_gen (xs : Array Value) (i k : Nat) : ((List.range k).filterMap fun (m : Nat) => xs[((i : Int) + (m : Int) * 1).toNat]?).toArray = ((xs.toList.drop i).take k).toArray := by
  have e : (fun (m : Nat) => xs[((i : Int) + (m : Int) * 1).toNat]?) = fun m => xs[i + m]? := by
    funext m
    have : ((i : Int) + (m : Int) * 1).toNat = i + m := by omega
    rw [this]
  rw [e]
  have := pick_run xs i k
  rw [List.filterMap_map] at this
  have e2 : ((fun x => xs[x]?) ∘ fun x => i + x) = fun m => xs[i + m]? := rfl
  rw [e2] at this
  rw [this]

theorem getItem_tuple_cut {t sl : Addr} {items : Array Value} {vl vu : Value} {lo hi : Option Int} {Q : Value → Shared → Prop} (ht : IsTup s.heap t items) (hs : s.heap.IsSliceOf sl vl vu .none) (pl : IsPart vl lo) (pu : IsPart vu hi)
    (hw : ¬ (sIx items.size 0 lo = 0 ∧ sIx items.size items.size hi = items.size))
    (h : Q (.ref s.heap.objs.size) { s with heap := s.heap.push { cls := .type "tuple", data := .seq ((items.toList.drop (sIx items.size 0 lo)).take (sIx items.size items.size hi - sIx items.size 0 lo)).toArray } })
    (hsz : items.size ≤ sizeLine) : wpAny (model prog w) A (getItem (.ref t) (.ref sl)) Q E s := by
  have htake : sizeOk (.seq ((items.toList.drop (sIx items.size 0 lo)).take (sIx items.size items.size hi - sIx items.size 0 lo)).toArray) := by
    show ((items.toList.drop (sIx items.size 0 lo)).take (sIx items.size items.size hi - sIx items.size 0 lo)).toArray.size ≤ sizeLine
    rw [List.size_toArray, List.length_take, List.length_drop, Array.length_toList]
    omega
  have hj : sIx items.size items.size hi ≤ items.size := sIx_le _ _ (Nat.le_refl _) hi
  obtain ⟨os, hos, hcs, hds⟩ := id hs
  have hTs : s.TypeIs (.ref sl) "slice" := ⟨os, hos, hcs⟩
  unfold getItem
  try with_reducible refine wpAny_holding ?_
  first | refine wpAny_bind (wpAny_pure ?_) | skip
  refine wpAny_bind (wpAny_sequenceKey ht.typeIs (by decide) ?_)
  refine wpAny_bind (wpAny_callSpecial?_slot (name := Str.ofString "__getitem__") ht.typeIs PyProof.Rows.slot_tuple_getitem
    (wpAny_call_entry PyProof.Rows.slot_tuple_getitem ht.typeIs entry_tuple_getitem ?_ (args_tuple_getitem _ _)))
  show wpAny _ _ (Builtin.Tuple.tupleItemsOf (.ref t) >>= _) _ _ s
  refine wpAny_bind (tupleItemsOf_ ht ?_)
  refine wpAny_bind (wpAny_typeOf hTs ?_)
  rw [if_pos (by decide)]
  refine wpAny_bind (sliceApplied_gen hs pl pu ?_)
  have hno : ¬ ((((sIx items.size 0 lo : Nat) : Int) == 0 && (1 : Int) == 1 && (sIx items.size items.size hi - sIx items.size 0 lo) == items.size) = true) := by
    intro q
    rw [Bool.and_eq_true, Bool.and_eq_true] at q
    have q1 : ((sIx items.size 0 lo : Nat) : Int) = 0 := eq_of_beq q.1.1
    have q2 : sIx items.size items.size hi - sIx items.size 0 lo = items.size := eq_of_beq q.2
    exact hw ⟨by omega, by omega⟩
  show wpAny _ _ (if (((sIx items.size 0 lo : Nat) : Int) == 0 && (1 : Int) == 1 && (sIx items.size items.size hi - sIx items.size 0 lo) == items.size) = true then _ else _) _ _ s
  rw [if_neg hno, pick_gen]
  first
    | exact wpAny_bind (m := Builtin.Tuple.tupleExact _) (wpAny_newObj_type (wpAny_pure ⟨_, rfl, wpAny_pure h⟩) htake)
    | exact wpAny_bind (m := Builtin.Tuple.tupleExact _) (wpAny_newObj_type (wpAny_bind (wpAny_pure (wpAny_pure ⟨_, rfl, wpAny_pure h⟩))) htake)
    | exact wpAny_bind (wpAny_bind (m := Builtin.Tuple.tupleExact _) (wpAny_newObj_type (wpAny_pure (wpAny_pure ⟨_, rfl, wpAny_pure h⟩)) htake))
    | exact wpAny_bind (wpAny_bind (m := Builtin.Tuple.tupleExact _) (wpAny_newObj_type (wpAny_pure ⟨_, rfl, wpAny_pure h⟩) htake))
end
end HT

namespace L2
open PySem PySem.Spec PyProof.Rows

abbrev TO := St → Hp → (Option Int → Hp → Prop) → Prop
def PO (X : Cx) (e : Option Expr) (t : TO) : Prop :=
  ∀ (pins : List (Addr × Obj)) (s : Shared) (σ : St) (H : Hp) (Q : Option Int → Hp → Prop), Inv X pins σ H s → t σ H Q →
    wpAny (model X.prog X.w) X.A (evalPart e X.env) (fun u s' => ∃ o H', Inv X pins σ H' s' ∧ IsPart u o ∧ Q o H') X.xe s
def tNoPart : TO := fun _ H Q => Q none H
def tPart (t : TE) : TO := fun σ H Q => t σ H fun x H1 => ∃ i, x = .int i ∧ Q (some i) H1

section
variable {X : Cx} {e : Expr} {te : TE} {lo hi : Option Expr} {tl th : TO} {pos p2 : Pos}

theorem po_none : PO X none tNoPart := by
  intro pins s σ H Q I h
  rw [evalPart_none]
  exact wpAny_pure ⟨none, H, I, .none, h⟩
theorem po_some (h : PE X e te) : PO X (some e) (tPart te) := by
  intro pins s σ H Q I hw
  rw [evalPart_some]
  refine thn (h pins s σ H _ I hw) fun u s1 ⟨x, H1, I1, r1, q1⟩ => ?_
  obtain ⟨i, rfl, q⟩ := q1
  obtain ⟨t, rfl⟩ := r1
  exact ⟨some i, H1, I1, .int i t, q⟩

def SlR (X : Cx) (r : V → Option Int → Option Int → Hp → VK → Prop) : Prop :=
  ∀ (pins : List (Addr × Obj)) (s : Shared) (σ : St) (H : Hp) (x : V) (v vl vu : Value) (lo hi : Option Int) (sl : Addr) (Q : VK), Inv X pins σ H s → RelV x v → s.heap.IsSliceOf sl vl vu .none → IsPart vl lo → IsPart vu hi → r x lo hi H Q →
    ∃ T id, typeLookup (.type T) "__getitem__" = pure (some (.builtin id)) ∧ s.TypeIs v T ∧ wpAny (model X.prog X.w) X.A (getItem v (.ref sl)) (EP X pins σ Q) X.xe s
theorem SlR.or {r r' : V → Option Int → Option Int → Hp → VK → Prop} (h : SlR X r) (h' : SlR X r') : SlR X (fun x lo hi H Q => r x lo hi H Q ∨ r' x lo hi H Q) := by
  intro pins s σ H x v vl vu lo hi sl Q I rx hs pl pu q
  rcases q with q | q
  · exact h pins s σ H x v vl vu lo hi sl Q I rx hs pl pu q
  · exact h' pins s σ H x v vl vu lo hi sl Q I rx hs pl pu q
def tSl (r : V → Option Int → Option Int → Hp → VK → Prop) (te : TE) (tl th : TO) : TE := fun σ H Q => te σ H fun x H1 => tl σ H1 fun l H2 => th σ H2 fun u H3 => r x l u H3 Q
theorem pe_slice {r : V → Option Int → Option Int → Hp → VK → Prop} (hr : SlR X r) (he : PE X e te) (hl : PO X lo tl) (hu : PO X hi th) : PE X (.Subscript e (.Slice lo hi none p2) pos) (tSl r te tl th) := by
  intro pins s σ H Q I h
  refine Subscript_ (thn (he pins s σ H _ I h) fun v s1 ⟨x, H1, I1, r1, q1⟩ => ?_)
  refine wpAny_Slice (thn (hl pins s1 σ H1 _ I1 q1) fun vl s2 ⟨l, H2, I2, pl, q2⟩ => thn (hu pins s2 σ H2 _ I2 q2) fun vu s3 ⟨u, H3, I3, pu, q3⟩ => ?_)
  rw [evalPart_none]
  refine wpAny_pure ?_
  have I4 : Inv X pins σ H3 { s3 with heap := s3.heap.push { cls := .type "slice", data := .fields #[vl, vu, .none] } } := I3.kept (t' := s3.toks) fun b ob q => Heap.get?_push_of_some _ q
  obtain ⟨T, id, hT, ht, hg⟩ := hr pins { s3 with heap := s3.heap.push { cls := .type "slice", data := .fields #[vl, vu, .none] } } σ H3 x v vl vu l u s3.heap.objs.size Q I4 r1 (Heap.IsSliceOf.new ..) pl pu q3
  show wpAny (model X.prog X.w) X.A (subscriptTail e (.Slice lo hi none p2) v (.ref s3.heap.objs.size)) (EP X pins σ Q) X.xe { s3 with heap := s3.heap.push { cls := .type "slice", data := .fields #[vl, vu, .none] } }
  exact tail_any (ops := [.ref s3.heap.objs.size, v]) ht hT hg (by with_unfolding_all rfl)

def cutV (xs : List V) (lo hi : Option Int) : List V := (xs.drop (HT.sIx xs.length 0 lo)).take (HT.sIx xs.length xs.length hi - HT.sIx xs.length 0 lo)
theorem cutV_length (xs : List V) (lo hi : Option Int) : (cutV xs lo hi).length ≤ xs.length := by
  unfold cutV
  rw [List.length_take, List.length_drop]
  omega
def rSlT (K : PySem.W.Frag) : V → Option Int → Option Int → Hp → VK → Prop := fun x lo hi H Q => ∃ a xs, x = .ref a ∧ SqT K H a xs ∧
  ¬ (HT.sIx xs.length 0 lo = 0 ∧ HT.sIx xs.length xs.length hi = xs.length) ∧ ∀ p, H p = none → Q (.ref p) (upd H p (.tup (cutV xs lo hi)))
theorem sl_tup : SlR X (rSlT X.K) := by
  intro pins s σ H x v vl vu lo hi sl Q I rx hs pl pu h
  obtain ⟨a, xs, rfl, hx, hw, q⟩ := h
  cases rx
  obtain ⟨its, r, ht, hz⟩ := I.tuple hx
  have hlen : its.toArray.size = xs.length := by rw [List.size_toArray]; exact r.length.symm
  refine ⟨"tuple", _, PyProof.Rows.slot_tuple_getitem.lookup, ht.typeIs, ?_⟩
  refine HT.getItem_tuple_cut ht hs pl pu (by rw [hlen]; exact hw) ?_ (by rw [hlen]; exact hz)
  rw [hlen]
  refine ⟨.ref s.heap.objs.size, _, I.laid (t' := s.toks) (o := .tup (cutV xs lo hi)) (fun b ob q => Heap.get?_push_of_some _ q) (Nat.le_refl _) ?_, rfl, q _ (I.hok.fresh (Nat.le_refl _))⟩
  exact ⟨Nat.le_trans (cutV_length xs lo hi) hz, _, (r.drop (HT.sIx xs.length 0 lo)).take (HT.sIx xs.length xs.length hi - HT.sIx xs.length 0 lo), IsTup.new _ _⟩

def rCatT (K : PySem.W.Frag) : R2 := fun x y H Q => ∃ a b xs ys, x = .ref a ∧ y = .ref b ∧ SqT K H a xs ∧ SqT K H b ys ∧ xs ≠ [] ∧ xs.length + ys.length ≤ sizeLine ∧
  (ys = [] → Q (.ref a) H) ∧ (ys ≠ [] → ∀ p, H p = none → Q (.ref p) (upd H p (.tup (xs ++ ys))))
theorem Vals.nil_iff {xs : List V} {us : List Value} (r : Vals xs us) : us = [] ↔ xs = [] := by
  cases r with
  | nil => simp
  | cons _ _ => simp
theorem op_catT : OpR X (binaryOp .Add) (rCatT X.K) := by
  intro pins s σ H x y v u Q I rx ry h
  obtain ⟨a, b, xs, ys, rfl, rfl, ha, hb, hx, hz, q1, q2⟩ := h
  cases rx
  cases ry
  obtain ⟨its, r1, p1, _⟩ := I.tuple ha
  obtain ⟨its2, r2, p2, _⟩ := I.tuple hb
  refine HT.cat_tup p1 p2 (fun z => hx (r1.nil_iff.mp z)) (fun z => ⟨.ref a, H, I, rfl, q1 (r2.nil_iff.mp z)⟩) (fun z => ?_) (by rw [← r1.length, ← r2.length]; exact hz)
  refine ⟨.ref s.heap.objs.size, _, I.laid (t' := s.toks) (o := .tup (xs ++ ys)) (fun b ob q => Heap.get?_push_of_some _ q) (Nat.le_refl _) ?_, rfl, q2 (fun w => z (r2.nil_iff.mpr w)) _ (I.hok.fresh (Nat.le_refl _))⟩
  exact ⟨by rw [List.length_append]; exact hz, _, r1.append r2, IsTup.new _ _⟩
end
end L2

namespace L2
open PySem PySem.Spec PyProof.Rows

def ixN (n : Nat) (i : Int) : Option Nat := if 0 ≤ i then (if i < n then some i.toNat else none) else if -(n : Int) ≤ i then some (i + n).toNat else none
def atI {α : Type} (xs : List α) (i : Int) : Option α := (ixN xs.length i).bind fun j => xs[j]?
theorem ixN_seq {n : Nat} {i : Int} {j : Nat} (h : ixN n i = some j) : seqIndex? i n = some j ∧ j < n ∧ -(n : Int) ≤ i ∧ i < n := by
  unfold ixN at h
  by_cases h0 : 0 ≤ i
  · rw [if_pos h0] at h
    by_cases h1 : i < n
    · rw [if_pos h1] at h
      have e : i.toNat = j := Option.some.inj h
      exact ⟨by rw [seqIndex_of h0 h1, e], by omega, by omega, h1⟩
    · rw [if_neg h1] at h; cases h
  · rw [if_neg h0] at h
    by_cases h1 : -(n : Int) ≤ i
    · rw [if_pos h1] at h
      have e : (i + n).toNat = j := Option.some.inj h
      exact ⟨by rw [seqIndex_neg (by omega) h1, e], by omega, h1, by omega⟩
    · rw [if_neg h1] at h; cases h
theorem atI_get {α : Type} {xs : List α} {i : Int} {v : α} (h : atI xs i = some v) : ∃ j, seqIndex? i xs.length = some j ∧ xs[j]? = some v ∧ j < xs.length ∧ -(xs.length : Int) ≤ i ∧ i < xs.length := by
  unfold atI at h
  cases e : ixN xs.length i with
  | none => rw [e] at h; cases h
  | some j =>
    rw [e] at h
    obtain ⟨h1, h2, h3, h4⟩ := ixN_seq e
    exact ⟨j, h1, h, h2, h3, h4⟩
theorem atI_nat {α : Type} {xs : List α} {j : Nat} {v : α} (h : xs[j]? = some v) : atI xs (j : Int) = some v := by
  have hj : j < xs.length := (List.getElem?_eq_some_iff.mp h).1
  have e : ixN xs.length (j : Int) = some j := by
    unfold ixN
    rw [if_pos (by omega), if_pos (by omega)]; simp
  unfold atI; rw [e]; exact h
theorem atI_last {α : Type} (xs : List α) (v : α) : atI (xs ++ [v]) (-1) = some v := by
  have hl : (xs ++ [v]).length = xs.length + 1 := by simp
  have e : ixN (xs ++ [v]).length (-1) = some xs.length := by
    unfold ixN
    rw [hl, if_neg (by decide), if_pos (by omega)]
    congr 1
    omega
  unfold atI
  rw [e]
  show (xs ++ [v])[xs.length]? = some v
  simp

def PlainIx (b : Expr) : Prop := ∀ o i, subscripted b false o i = operate [o, i] (getItem o i)
def IxR (X : Cx) (r : R2) : Prop :=
  ∀ (value slice : Expr) (pins : List (Addr × Obj)) (s : Shared) (σ : St) (H : Hp) (x y : V) (v u : Value) (Q : VK), Inv X pins σ H s → RelV x v → RelV y u → r x y H Q →
    subscripted slice false v u = operate [v, u] (getItem v u) → wpAny (model X.prog X.w) X.A (subscriptTail value slice v u) (EP X pins σ Q) X.xe s
def MtR (X : Cx) (id : String) (r : V → List V → Hp → VK → Prop) : Prop :=
  ∀ (pins : List (Addr × Obj)) (s : Shared) (σ : St) (H : Hp) (x : V) (xs : List V) (v : Value) (us : List Value) (Q : VK), Inv X pins σ H s → RelV x v → Vals xs us → r x xs H Q →
    wpAny (model X.prog X.w) X.A (call (.builtin id) (v :: us)) (EP X pins σ Q) X.xe s
section
variable {X : Cx} {a b : Expr} {ta tb : TE} {pos : Pos}
theorem IxR.or {r r' : R2} (h : IxR X r) (h' : IxR X r') : IxR X (fun x y H Q => r x y H Q ∨ r' x y H Q) := by
  intro value slice pins s σ H x y v u Q I rx ry q hs
  rcases q with q | q
  · exact h value slice pins s σ H x y v u Q I rx ry q hs
  · exact h' value slice pins s σ H x y v u Q I rx ry q hs
theorem MtR.or {id : String} {r r' : V → List V → Hp → VK → Prop} (h : MtR X id r) (h' : MtR X id r') : MtR X id (fun x xs H Q => r x xs H Q ∨ r' x xs H Q) := by
  intro pins s σ H x xs v us Q I rx rs q
  rcases q with q | q
  · exact h pins s σ H x xs v us Q I rx rs q
  · exact h' pins s σ H x xs v us Q I rx rs q
theorem pe_ix {r : R2} (hr : IxR X r) (ha : PE X a ta) (hb : PE X b tb) (hs : PlainIx b) : PE X (.Subscript a b pos) (tOp r ta tb) := by
  intro pins s σ H Q I h
  exact Subscript_ (binT ha hb I h fun v u s2 x y H2 I2 rx ry q => hr a b pins s2 σ H2 x y v u Q I2 rx ry q (hs _ _))

def rIxL (K : PySem.W.Frag) : R2 := fun x y H Q => ∃ p xs i v, x = .ref p ∧ y = .int i ∧ SqL K H p xs ∧ atI xs i = some v ∧ Q v H
def rIxT (K : PySem.W.Frag) : R2 := fun x y H Q => ∃ p xs i v, x = .ref p ∧ y = .int i ∧ SqT K H p xs ∧ atI xs i = some v ∧ Q v H
def rIxS : R2 := fun x y H Q => ∃ z i c, x = .str z ∧ y = .int i ∧ z.length ≤ sizeLine ∧ atI z.cps.toList i = some c ∧ Q (.str ⟨#[c]⟩) H
theorem ix_list : IxR X (rIxL X.K) := by
  intro value slice pins s σ H x y v u Q I rx ry h hs
  obtain ⟨p, xs, i, z, rfl, rfl, hq, he, q⟩ := h
  cases rx
  obtain ⟨t, rfl⟩ := ry
  obtain ⟨its, r, pl, hz⟩ := I.list hq
  obtain ⟨j, h1, h2, h3, h4, h5⟩ := atI_get he
  obtain ⟨w, ew, rw'⟩ := r.get h2
  have hl := r.length
  have hn := line63
  have fin : EP X pins σ Q w s := ⟨z, H, I, rw', q⟩
  by_cases h0 : 0 ≤ i
  · have hj : i.toNat = j := by
      rw [seqIndex_of h0 h5] at h1
      exact Option.some.inj h1
    exact item_listR pl.isList h0 (by omega) (by rw [hj]; simpa using ew) fin hs
  · have hj : (i + (its.toArray.size : Int)).toNat = j := by
      rw [seqIndex_neg (by omega) h4] at h1
      rw [List.size_toArray, ← hl]
      exact Option.some.inj h1
    exact subscriptTail_builtinR (x := w) pl.isList.typeIs slot_list_getitem.lookup
      (wpAny_getItem_list_neg (Q := fun r s' => r = w ∧ EP X pins σ Q r s') pl.isList (by omega) (by rw [List.size_toArray] <;> omega) (by omega) (by rw [hj]; simpa using ew) ⟨rfl, fin⟩) hs
theorem ix_tup : IxR X (rIxT X.K) := by
  intro value slice pins s σ H x y v u Q I rx ry h hs
  obtain ⟨p, xs, i, z, rfl, rfl, hq, he, q⟩ := h
  cases rx
  obtain ⟨t, rfl⟩ := ry
  obtain ⟨its, r, pl, hz⟩ := I.tuple hq
  obtain ⟨j, h1, h2, h3, h4, h5⟩ := atI_get he
  obtain ⟨w, ew, rw'⟩ := r.get h2
  have hl := r.length
  have hn := line63
  have fin : EP X pins σ Q w s := ⟨z, H, I, rw', q⟩
  exact subscriptTail_builtinR (x := w) pl.typeIs slot_tuple_getitem.lookup
    (getItem_tuple (j := j) (Q := fun r s' => r = w ∧ EP X pins σ Q r s') pl (by omega) (by omega) (by rw [List.size_toArray, ← hl]; exact h1) (by simpa using ew) ⟨rfl, fin⟩) hs
theorem ix_str : IxR X rIxS := by
  intro value slice pins s σ H x y v u Q I rx ry h hs
  obtain ⟨z, i, c, rfl, rfl, hz, he, q⟩ := h
  obtain ⟨t, rfl⟩ := rx
  obtain ⟨t', rfl⟩ := ry
  obtain ⟨j, h1, h2, h3, h4, h5⟩ := atI_get he
  have hl : z.cps.toList.length = z.length := by simp [Str.length]
  rw [hl] at h1 h4 h5
  have hn := line63
  exact tail_any (typeIs_str s z t) slot_str_getitem.lookup (getItem_str (c := c) (by
    have e1 : decide (i < -(2 ^ 63 : Int)) = false := decide_eq_false (by omega)
    have e2 : decide (i ≥ 2 ^ 63) = false := decide_eq_false (by omega)
    rw [e1, e2, Bool.or_false]) (by rw [h1]; simpa using h2) ⟨.str ⟨#[c]⟩, H, I.tok _, ⟨_, rfl⟩, q⟩) hs
def rIx (K : PySem.W.Frag) : R2 := fun x y H Q => rIxL K x y H Q ∨ rIxT K x y H Q ∨ rIxS x y H Q
theorem ix_seq : IxR X (rIx X.K) := ix_list.or (ix_tup.or ix_str)

theorem Inv.lst {pins : List (Addr × Obj)} {σ : St} {H : Hp} {s : Shared} {p : Addr} {xs : List V} (I : Inv X pins σ H s) (h : H p = some (.lst xs)) :
    ∃ (its : List Value) (n : Nat), Vals xs its ∧ s.heap.get? p = some { cls := .type "list", data := .seq its.toArray n } ∧ xs.length ≤ sizeLine := by
  obtain ⟨z, its, n, r, e⟩ := I.hok p _ h
  exact ⟨its, n, r, e, z⟩
theorem slice_bounds (lo hi : Option Int) (n : Nat) : (sliceBounds lo hi none n).1 = ((HT.sIx n 0 lo : Nat) : Int) ∧ (sliceBounds lo hi none n).2.1 = ((HT.sIx n n hi : Nat) : Int) ∧ (sliceBounds lo hi none n).2.2 = 1 := by
  refine ⟨?_, ?_, rfl⟩
  · cases lo with
    | none => simp [sliceBounds, HT.sIx]
    | some i =>
      simp only [sliceBounds, HT.sIx, Option.getD_none, show (1 : Int) > 0 by decide, if_true]
      by_cases h : i < 0
      · simp only [h, if_true] <;> omega
      · simp only [h, if_false] <;> omega
  · cases hi with
    | none => simp [sliceBounds, HT.sIx]
    | some i =>
      simp only [sliceBounds, HT.sIx, Option.getD_none, show (1 : Int) > 0 by decide, if_true]
      by_cases h : i < 0
      · simp only [h, if_true] <;> omega
      · simp only [h, if_false] <;> omega
theorem slicePick_cut (its : List Value) (lo hi : Option Int) : slicePick its.toArray lo hi none = ((its.drop (HT.sIx its.length 0 lo)).take (HT.sIx its.length its.length hi - HT.sIx its.length 0 lo)).toArray := by
  obtain ⟨h1, h2, h3⟩ := slice_bounds lo hi its.toArray.size
  unfold slicePick
  rw [h1, h2, h3]
  simp only [sliceRange_one, pick_run, List.size_toArray] <;> rfl
def rSlL (K : PySem.W.Frag) : V → Option Int → Option Int → Hp → VK → Prop := fun x lo hi H Q => ∃ a xs, x = .ref a ∧ SqL K H a xs ∧ ∀ p, H p = none → Q (.ref p) (upd H p (.lst (cutV xs lo hi)))
theorem sl_list : SlR X (rSlL X.K) := by
  intro pins s σ H x v vl vu lo hi sl Q I rx hs pl pu h
  obtain ⟨a, xs, rfl, hx, q⟩ := h
  cases rx
  obtain ⟨its, r, ht, hz⟩ := I.list hx
  have hlen := r.length
  refine ⟨"list", _, slot_list_getitem.lookup, ht.isList.typeIs, ?_⟩
  refine wpAny_getItem_list_slice ht.isList hs pl pu .none (by simp) ?_ (by rw [List.size_toArray] <;> omega)
  rw [slicePick_cut, ← hlen]
  refine ⟨.ref s.heap.objs.size, _, I.laid (t' := s.toks) (o := .lst (cutV xs lo hi)) (fun b ob q => Heap.get?_push_of_some _ q) (Nat.le_refl _) ?_, rfl, q _ (I.hok.fresh (Nat.le_refl _))⟩
  exact ⟨Nat.le_trans (cutV_length xs lo hi) hz, _, 0, (r.drop (HT.sIx xs.length 0 lo)).take (HT.sIx xs.length xs.length hi - HT.sIx xs.length 0 lo), Heap.get?_push_size _ rfl⟩

theorem CallR.or {f : Value} {r r' : List V → Hp → VK → Prop} (h : CallR X f r) (h' : CallR X f r') : CallR X f (fun xs H Q => r xs H Q ∨ r' xs H Q) := by
  intro pins s σ H xs us Q I rs q
  rcases q with q | q
  · exact h pins s σ H xs us Q I rs q
  · exact h' pins s σ H xs us Q I rs q
def tyV (K : PySem.W.Frag) (T : String) (x : V) (H : Hp) : Prop := match x with
  | .str _ => T = "str"
  | .int _ => T = "int"
  | .ref p => (T = "list" ∧ ∃ xs, SqL K H p xs) ∨ (T = "tuple" ∧ ∃ o, K.lookup p = some o ∧ o.cls = .type "tuple" ∧ o.dict = none) ∨
      (T = "dict" ∧ ((∃ kvs, H p = some (.dK kvs)) ∨ ∃ kvs, H p = some (.dT kvs))) ∨ (T = "set" ∧ ∃ S n, H p = some (.set S n))
  | _ => False
theorem tyV_is {pins : List (Addr × Obj)} {σ : St} {H : Hp} {s : Shared} {T : String} {x : V} {v : Value} (I : Inv X pins σ H s) (r : RelV x v) (ty : tyV X.K T x H) :
    s.TypeIs v T ∧ ∀ a, v = .ref a → ∃ ob, s.heap.get? a = some ob ∧ ob.dict = none := by
  cases x with
  | str z =>
    obtain ⟨t, rfl⟩ := r
    cases (show T = "str" from ty)
    exact ⟨typeIs_str s z t, fun _ e => nomatch e⟩
  | int i =>
    obtain ⟨t, rfl⟩ := r
    cases (show T = "int" from ty)
    exact ⟨typeIs_int s i t, fun _ e => nomatch e⟩
  | ref p =>
    cases r
    rcases ty with ⟨rfl, xs, hq⟩ | ⟨rfl, o, hk, hc, hd⟩ | ⟨rfl, hk⟩ | ⟨rfl, S, n, hk⟩
    · obtain ⟨its, _, pl, _⟩ := I.list hq
      refine ⟨pl.isList.typeIs, fun a e => ?_⟩
      cases e
      obtain ⟨o, n, e, c, hd, _⟩ := pl
      exact ⟨o, e, hd⟩
    · refine ⟨⟨o, I.kIn p o hk, hc⟩, fun a e => ?_⟩
      cases e
      exact ⟨o, I.kIn _ o hk, hd⟩
    · have z : ∃ o, s.heap.get? p = some o ∧ o.ExactDict := by
        rcases hk with ⟨kvs, hk⟩ | ⟨kvs, hk⟩
        · obtain ⟨_, _, _, _, o, _, _, e, ex, _⟩ := I.hok p _ hk
          exact ⟨o, e, ex⟩
        · obtain ⟨_, _, _, _, o, _, _, e, ex, _⟩ := I.hok p _ hk
          exact ⟨o, e, ex⟩
      obtain ⟨o, e, ex⟩ := z
      refine ⟨⟨o, e, ex.1⟩, fun a e2 => ?_⟩
      cases e2
      exact ⟨o, e, ex.2.1⟩
    · obtain ⟨o, _, _, _, e, ex, _⟩ := I.hok p _ hk
      refine ⟨⟨o, e, ex.1⟩, fun a e2 => ?_⟩
      cases e2
      exact ⟨o, e, ex.2.1⟩
  | _ => exact False.elim ty
def tBM (K : PySem.W.Frag) (T : String) (r : V → List V → Hp → VK → Prop) (to : TE) (t : TA) : TE := fun σ H Q => to σ H fun x H1 => tyV K T x H1 ∧ t σ H1 fun xs H2 => r x xs H2 Q
variable {o e : Expr} {es : List Expr} {to : TE} {t : TA} {name : Str} {apos cpos : Pos} {T id : String} {r : V → List V → Hp → VK → Prop}
theorem pe_bm (pa : PlainAttrs T) (slot : Slot T name id) (hty : typeOf (.builtin id) = pure (.type "method_descriptor")) (hm : MtR X id r) (ho : PE X o to) (ha : PA X (e :: es) t)
    (hbase : attributeBase o name X.env (eval o X.env) = eval o X.env := by rfl)
    (hfew : ((backTo cpos (starEach (e :: es) X.env)).all (fun x => !x.1) && (backToKw cpos (keywordEach [] X.env)).all (fun x => x.1.isSome)
      && decide ((e :: es).length + ([] : List Keyword).length + (if ([] : List Keyword).isEmpty then 0 else 1) < 30)) = true := by rfl)
    (hline : (apos.endLine == cpos.line) = true := by rfl) (hs : starEach (e :: es) X.env = (false, eval e X.env) :: starEach es X.env := by rfl) (hplain : (backTo cpos (starEach es X.env)).any (·.1) = false := by rfl) :
    PE X (.Call (.Attribute o name apos) (e :: es) [] cpos) (tBM X.K T r to t) := by
  intro pins s σ H Q I h
  refine wpAny_Call_method_late hbase hfew hline rfl (thn (ho pins s σ H _ I h) fun v s1 ⟨x, H1, I1, r1, ty, q1⟩ => ?_)
  obtain ⟨h1, h2⟩ := tyV_is I1 r1 ty
  refine ⟨T, id, pa, slot, hty, h1, h2, ?_⟩
  have hA := ha cpos pins s1 σ H1 _ I1 q1
  rw [hs] at hA ⊢
  refine Calls.callWith_builtin (by show (false || (backTo cpos (starEach es X.env)).any (·.1)) = false; rw [hplain] <;> rfl) (Calls.evalArgs_plain ?_)
  exact thn hA fun us s2 ⟨vs, H2, I2, r2, q2⟩ => hm pins s2 σ H2 x vs v us Q I2 r1 r2 q2
end
end L2

namespace L2
open PySem PySem.Spec PyProof.Rows

def MtM (X : Cx) (id : String) (r : V → List V → Hp → VK → Prop) : Prop :=
  ∀ (pins : List (Addr × Obj)) (s : Shared) (σ : St) (H : Hp) (x : V) (xs : List V) (v : Value) (us : List Value) (Q : VK), Inv X pins σ H s → RelV x v → Vals xs us → r x xs H Q →
    wpAny (model X.prog X.w) X.A (call (.builtin id) (v :: us)) (EP X pins σ Q) X.xe s

theorem Vals.one : ∀ {x : V} {us : List Value}, Vals [x] us → ∃ u, us = [u] ∧ RelV x u
  | _, _, .cons r .nil => ⟨_, rfl, r⟩
theorem Vals.two : ∀ {x y : V} {us : List Value}, Vals [x, y] us → ∃ u v, us = [u, v] ∧ RelV x u ∧ RelV y v
  | _, _, _, .cons r (.cons q .nil) => ⟨_, _, rfl, r, q⟩
theorem Vals.zero : ∀ {us : List Value}, Vals [] us → us = []
  | _, .nil => rfl
theorem Vals.dropLast {xs : List V} {us : List Value} (h : Vals xs us) : Vals xs.dropLast us.dropLast := by
  induction h with
  | nil => exact .nil
  | cons r t ih =>
    cases t with
    | nil => exact .nil
    | cons q t' => exact .cons r ih
theorem Vals.rep {xs : List V} {us : List Value} (h : Vals xs us) : ∀ k : Nat, Vals (List.replicate k xs).flatten (List.replicate k us).flatten
  | 0 => .nil
  | k + 1 => by
    rw [List.replicate_succ, List.replicate_succ, List.flatten_cons, List.flatten_cons]
    exact Vals.append h (Vals.rep h k)
theorem foldl_rep (its : List Value) : ∀ (k : Nat) (acc : List Value),
    List.foldl (fun x1 x2 => x1 ++ x2) acc.toArray (List.replicate k its.toArray) = (acc ++ (List.replicate k its).flatten).toArray
  | 0, acc => by simp
  | k + 1, acc => by
    have e : acc.toArray ++ its.toArray = (acc ++ its).toArray := by simp
    have e2 : (acc ++ its) ++ (List.replicate k its).flatten = acc ++ (List.replicate (k + 1) its).flatten := by
      rw [List.replicate_succ, List.flatten_cons, List.append_assoc]
    rw [← e2, ← foldl_rep its k (acc ++ its), ← e, List.replicate_succ, List.foldl_cons]

section
variable {X : Cx} {pins : List (Addr × Obj)} {σ : St} {H : Hp} {s : Shared} {l b : Addr} {xs ys zs : List V}

theorem Inv.lset {its its' : List Value} {n : Nat} {f : Array Value → Array Value} {t' : Nat} (I : Inv X pins σ H s) (hH : H l = some (.lst xs))
    (e : s.heap.get? l = some { cls := .type "list", data := .seq its.toArray n }) (hf : f its.toArray = its'.toArray) (hv : Vals ys its') (hz : ys.length ≤ sizeLine) :
    Inv X pins σ (upd H l (.lst ys)) { s with heap := s.heap.update l (Obj.mapSeq f), toks := t' } := by
  have q := PySem.IsL.update e f
  rw [hf] at q
  refine I.write (x := l) (e := l) (by rw [hH]; exact trivial) (.inl rfl) (fun b' u hb hu => (Heap.get?_update_other s.heap (Obj.mapSeq f) (Ne.symm hb)).trans hu) ⟨_, q⟩ ?_
  exact ⟨hz, its', _, hv, q⟩
theorem Inv.lnew {its : List Value} {t' : Nat} (I : Inv X pins σ H s) (hv : Vals ys its) (hz : ys.length ≤ sizeLine) :
    Inv X pins σ (upd H s.heap.objs.size (.lst ys)) { s with heap := s.heap.push { cls := .type "list", data := .seq its.toArray }, toks := t' } :=
  I.laid (fun _ _ q => Heap.get?_push_of_some _ q) (Nat.le_refl _) ⟨hz, its, 0, hv, Heap.get?_push_size _ rfl⟩
theorem Inv.fresh (I : Inv X pins σ H s) : H s.heap.objs.size = none := I.hok.fresh (Nat.le_refl _)
theorem Inv.lstM (I : Inv X pins σ H s) (hH : H l = some (.lst xs)) : xs.length ≤ sizeLine ∧ ∃ (its : List Value) (n : Nat), Vals xs its ∧ xs.length = its.length ∧ s.heap.get? l = some { cls := .type "list", data := .seq its.toArray n } := by
  obtain ⟨z, its, n, r, e⟩ := I.hok l _ hH
  exact ⟨z, its, n, r, r.length, e⟩

end

section
variable {X : Cx}

def rAppend : V → List V → Hp → VK → Prop := fun x vs H Q => ∃ l xs y, x = .ref l ∧ vs = [y] ∧ H l = some (.lst xs) ∧ xs.length < sizeLine ∧ Q .non (upd H l (.lst (xs ++ [y])))
theorem mt_append : MtM X "list.append" rAppend := by
  intro pins s σ H x vs v us Q I rx rv h
  obtain ⟨l, xs, y, rfl, rfl, hH, hz, q⟩ := h
  cases rx
  obtain ⟨u, rfl, ru⟩ := rv.one
  obtain ⟨z, its, n, r, hl, e⟩ := I.lstM hH
  refine call_meets F.slot_list_append ⟨_, e, rfl⟩ F.entry_list_append (F.args_list_append_2 _ _) (PySem.list_append l its.toArray n u (by rw [List.size_toArray]; omega)) ⟨e, ?_⟩
  refine ⟨.non, _, I.lset (its' := its ++ [u]) hH e (by simp) (r.append (.cons ru .nil)) ?_, rfl, q⟩
  rw [List.length_append, List.length_singleton]
  omega

def rCat : R2 := fun x y H Q => ∃ l b xs zs, x = .ref l ∧ y = .ref b ∧ H l = some (.lst xs) ∧ H b = some (.lst zs) ∧ xs.length + zs.length ≤ sizeLine ∧ ∀ p, H p = none → Q (.ref p) (upd H p (.lst (xs ++ zs)))
theorem op_cat : OpR X (binaryOp .Add) rCat := by
  intro pins s σ H x y v u Q I rx ry h
  obtain ⟨l, b, xs, zs, rfl, rfl, hH, hB, hz, q⟩ := h
  cases rx
  cases ry
  obtain ⟨z, its, n, r, hl, e⟩ := I.lstM hH
  obtain ⟨z2, its2, n2, r2, hl2, e2⟩ := I.lstM hB
  refine PySem.P.add_list e e2 ?_ (by rw [List.size_toArray, List.size_toArray]; omega)
  have ea : its.toArray ++ its2.toArray = (its ++ its2).toArray := by simp
  rw [ea]
  exact ⟨.ref _, _, I.lnew (t' := s.toks) (r.append r2) (by rw [List.length_append]; omega), rfl, q _ I.fresh⟩
theorem len_rep {α : Type} (xs : List α) (k : Nat) : (List.replicate k xs).flatten.length = k * xs.length := by
  induction k with
  | zero => simp
  | succ k ih => rw [List.replicate_succ, List.flatten_cons, List.length_append, ih, Nat.succ_mul, Nat.add_comm]
end

section
variable {prog : Program} {w : World} {A : Around} {E : Value → Shared → Prop} {s : Shared}
set_option maxRecDepth 100000 in
end

section
variable {X : Cx}
end
end L2

namespace L2
open PySem PySem.Spec PyProof.Rows

section
variable {κ : Type} [DecidableEq κ]
def valV (kvs : List (κ × V)) (k : κ) : Option V := (kvs.find? fun kv => decide (kv.1 = k)).map (·.2)
def putK (kvs : List (κ × V)) (k : κ) (v : V) : List (κ × V) :=
  if (kvs.any fun kv => decide (kv.1 = k)) = true then kvs.map (fun kv => if kv.1 = k then (kv.1, v) else kv) else kvs ++ [(k, v)]
def dropK (kvs : List (κ × V)) (k : κ) : List (κ × V) := kvs.filter fun kv => decide (kv.1 ≠ k)

theorem valV_pos {p : κ × V} {r : List (κ × V)} {k : κ} (e : p.1 = k) : valV (p :: r) k = some p.2 := by simp [valV, List.find?_cons, e]
theorem valV_neg {p : κ × V} {r : List (κ × V)} {k : κ} (e : ¬ p.1 = k) : valV (p :: r) k = valV r k := by simp [valV, List.find?_cons, e]
theorem valV_any (k : κ) : ∀ kvs : List (κ × V), (kvs.any fun kv => decide (kv.1 = k)) = (valV kvs k).isSome
  | [] => rfl
  | p :: r => by
    rw [List.any_cons]
    by_cases e : p.1 = k
    · simp only [valV_pos e, decide_eq_true e, Bool.true_or, Option.isSome_some]
    · rw [valV_neg e, decide_eq_false e, Bool.false_or]; exact valV_any k r
theorem length_putK (kvs : List (κ × V)) (k : κ) (v : V) : (putK kvs k v).length ≤ kvs.length + 1 := by
  unfold putK
  split
  · rw [List.length_map]; omega
  · rw [List.length_append, List.length_cons, List.length_nil]; omega
theorem putK_new {kvs : List (κ × V)} {k : κ} (v : V) (h : valV kvs k = none) : putK kvs k v = kvs ++ [(k, v)] := by
  unfold putK
  rw [valV_any, h]
  exact if_neg (by decide)

theorem RelO.isSome_eq {o : Option V} {u : Option Value} (r : RelO o u) : o.isSome = u.isSome := by
  cases o with
  | none => cases u with
    | none => rfl
    | some _ => exact (show False from r).elim
  | some _ => cases u with
    | none => exact (show False from r).elim
    | some _ => rfl
theorem RelO.getD {o : Option V} {u : Option Value} {d : V} {d' : Value} (r : RelO o u) (rd : RelV d d') : RelV (o.getD d) (u.getD d') := by
  cases o with
  | none => cases u with
    | none => exact rd
    | some _ => exact (show False from r).elim
  | some _ => cases u with
    | none => exact (show False from r).elim
    | some _ => exact r

theorem KV.val {kvs : List (κ × V)} {vs : List (κ × Value)} (r : KV kvs vs) (k : κ) : RelO (valV kvs k) (valueAt vs k) := by
  unfold KV at r
  induction r with
  | nil => exact True.intro
  | @cons p q ps qs h t ih =>
    obtain ⟨h1, h2⟩ := h
    by_cases e : p.1 = k
    · have e' : q.1 = k := h1.symm.trans e
      have b : valueAt (q :: qs) k = some q.2 := by simp [valueAt, List.find?_cons, e']
      rw [valV_pos e, b]; exact h2
    · have e' : ¬ q.1 = k := fun z => e (h1.trans z)
      have b : valueAt (q :: qs) k = valueAt qs k := by simp [valueAt, List.find?_cons, e']
      rw [valV_neg e, b]; exact ih
theorem KV.any {kvs : List (κ × V)} {vs : List (κ × Value)} (r : KV kvs vs) (k : κ) : (kvs.any fun kv => decide (kv.1 = k)) = vs.any fun kv => decide (kv.1 = k) := by
  unfold KV at r
  induction r with
  | nil => rfl
  | cons h t ih => rw [List.any_cons, List.any_cons, ih, h.1]
theorem KV.repl {kvs : List (κ × V)} {vs : List (κ × Value)} (r : KV kvs vs) (k : κ) {y : V} {u : Value} (ry : RelV y u) :
    KV (kvs.map fun kv => if kv.1 = k then (kv.1, y) else kv) (vs.map fun kv => if kv.1 = k then (kv.1, u) else kv) := by
  unfold KV at r ⊢
  induction r with
  | nil => exact .nil
  | @cons p q ps qs h t ih =>
    rw [List.map_cons, List.map_cons]
    refine .cons ?_ ih
    obtain ⟨h1, h2⟩ := h
    by_cases e : p.1 = k
    · rw [if_pos e, if_pos (h1.symm.trans e)]; exact ⟨h1, ry⟩
    · rw [if_neg e, if_neg (fun z => e (h1.trans z))]; exact ⟨h1, h2⟩
theorem KV.put {kvs : List (κ × V)} {vs : List (κ × Value)} (r : KV kvs vs) (k : κ) {y : V} {u : Value} (ry : RelV y u) : KV (putK kvs k y) (stored vs k u) := by
  unfold putK stored
  rw [r.any k]
  by_cases e : (vs.any fun kv => decide (kv.1 = k)) = true
  · rw [if_pos e, if_pos e]; exact r.repl k ry
  · rw [if_neg e, if_neg e]; exact Paired.snoc r ⟨rfl, ry⟩
theorem KV.drop {kvs : List (κ × V)} {vs : List (κ × Value)} (r : KV kvs vs) (k : κ) : KV (dropK kvs k) (without vs k) := by
  unfold KV at r ⊢
  unfold dropK without
  induction r with
  | nil => exact .nil
  | @cons p q ps qs h t ih =>
    obtain ⟨h1, h2⟩ := h
    rw [List.filter_cons, List.filter_cons]
    by_cases e : p.1 = k
    · have a : ¬ decide (p.1 ≠ k) = true := by simp [e]
      have b : ¬ decide (q.1 ≠ k) = true := by simp [h1.symm.trans e]
      rw [if_neg a, if_neg b]; exact ih
    · have e' : ¬ q.1 = k := fun z => e (h1.trans z)
      have a : decide (p.1 ≠ k) = true := by simp [e]
      have b : decide (q.1 ≠ k) = true := by simp [e']
      rw [if_pos a, if_pos b]; exact .cons ⟨h1, h2⟩ ih
theorem KV.keys {kvs : List (κ × V)} {vs : List (κ × Value)} (r : KV kvs vs) : kvs.map (·.1) = vs.map (·.1) := by
  unfold KV at r
  induction r with
  | nil => rfl
  | cons h t ih => rw [List.map_cons, List.map_cons, ih, h.1]
theorem KV.length {kvs : List (κ × V)} {vs : List (κ × Value)} (r : KV kvs vs) : kvs.length = vs.length := Paired.length r
end


theorem kV_is {P : Program} {w : World} {k : Key} {u : Value} (r : RelV (kV k) u) : (mixKind P w).is k u = true := by
  cases k with
  | inl i => obtain ⟨t, e⟩ := (show ∃ t, u = Value.int i t from r); subst e; exact mixKind_int P w i t
  | inr x => obtain ⟨t, e⟩ := (show ∃ t, u = Value.str x t from r); subst e; exact mixKind_str P w x t
theorem items_are {P : Program} {w : World} : ∀ {ks : List Key} {us : List Value}, Vals (ks.map kV) us → ItemsAre (mixKind P w) ks us
  | [], _, r => by rw [List.map_nil] at r; cases r; exact .nil
  | k :: ks, _, r => by
    rw [List.map_cons] at r
    cases r with
    | cons h t => exact .cons (kV_is h) (items_are t)

abbrev KT (H : Hp) : List (List Key × V) → List (List Key × Addr × Value) → Prop := Paired fun p q => p.1 = q.1 ∧ H q.2.1 = some (.tup (p.1.map kV)) ∧ RelV p.2 q.2.2
theorem KT.val {H : Hp} {kvs : List (List Key × V)} {xs : List (List Key × Addr × Value)} (r : KT H kvs xs) (k : List Key) : RelO (valV kvs k) ((atKey xs k).map (·.2)) := by
  induction r with
  | nil => exact True.intro
  | @cons p q ps qs h t ih =>
    obtain ⟨h1, _, h2⟩ := h
    by_cases e : p.1 = k
    · have e' : q.1 = k := h1.symm.trans e
      have b : atKey (q :: qs) k = some q.2 := by simp [atKey, List.find?_cons, e']
      rw [valV_pos e, b]; exact h2
    · have e' : ¬ q.1 = k := fun z => e (h1.trans z)
      have b : atKey (q :: qs) k = atKey qs k := by simp [atKey, List.find?_cons, e']
      rw [valV_neg e, b]; exact ih
theorem KT.repl {H : Hp} {kvs : List (List Key × V)} {xs : List (List Key × Addr × Value)} (r : KT H kvs xs) (k : List Key) {y : V} {u : Value} (ry : RelV y u) :
    KT H (kvs.map fun kv => if kv.1 = k then (kv.1, y) else kv) (xs.map (putAt k u)) := by
  induction r with
  | nil => exact .nil
  | @cons p q ps qs h t ih =>
    rw [List.map_cons, List.map_cons]
    refine .cons ?_ ih
    obtain ⟨h1, h2, h3⟩ := h
    unfold putAt
    by_cases e : p.1 = k
    · rw [if_pos e, if_pos (h1.symm.trans e)]; exact ⟨h1, h2, ry⟩
    · rw [if_neg e, if_neg (fun z => e (h1.trans z))]; exact ⟨h1, h2, h3⟩
theorem KT.put {H : Hp} {kvs : List (List Key × V)} {xs : List (List Key × Addr × Value)} (r : KT H kvs xs) (k : List Key) {b : Addr} {y : V} {u : Value} (hb : H b = some (.tup (k.map kV))) (ry : RelV y u) :
    KT H (putK kvs k y) (storedH xs k b u) := by
  have e : (kvs.any fun kv => decide (kv.1 = k)) = (atKey xs k).isSome := by
    rw [valV_any, (r.val k).isSome_eq, Option.isSome_map]
  unfold putK storedH
  rw [e]
  by_cases q : (atKey xs k).isSome = true
  · rw [if_pos q, if_pos q]; exact r.repl k ry
  · rw [if_neg q, if_neg q]; exact Paired.snoc r ⟨rfl, hb, ry⟩
theorem KT.keeps {H H' : Hp} {kvs : List (List Key × V)} {xs : List (List Key × Addr × Value)} (r : KT H kvs xs) (ht : ∀ b ys, H b = some (.tup ys) → H' b = some (.tup ys)) : KT H' kvs xs :=
  Paired.mapP r fun _ _ z => ⟨z.1, ht _ _ z.2.1, z.2.2⟩

section
variable {P : Program} {w : World} {H : Hp} {h : Heap} {a : Addr}
theorem rd_of {u : HO} (ok : HOk P w H h) (e : Rd H a u) : ObjOk P w H h a u := e.ok ok
theorem dk_rd {kvs : List (Key × V)} (ok : HOk P w H h) (e : Rd H a (.dK kvs)) : kvs.length ≤ sizeLine ∧ (a == sysModules) = false ∧ ∃ vs, KV kvs vs ∧ h.DictOf (mixKind P w) a vs :=
  show ObjOk P w H h a (.dK kvs) from rd_of ok e
theorem dk_of {kvs : List (Key × V)} (ok : HOk P w H h) (e : H a = some (.dK kvs)) : kvs.length ≤ sizeLine ∧ (a == sysModules) = false ∧ ∃ vs, KV kvs vs ∧ h.DictOf (mixKind P w) a vs := dk_rd ok (.inl e)
theorem key_of {ks : List Key} (ok : HOk P w H h) (e : H a = some (.tup (ks.map kV))) : (tupleKind (mixKind P w)).is h ks a := by
  obtain ⟨_, its, r, o, h1, h2, n, h3⟩ := (show ObjOk P w H h a (.tup (ks.map kV)) from ok a _ e)
  exact ⟨o, its.toArray, n, h1, h2, h3, by simpa using items_are r⟩
theorem dt_rd {kvs : List (List Key × V)} (ok : HOk P w H h) (e : Rd H a (.dT kvs)) : kvs.length ≤ sizeLine ∧ (a == sysModules) = false ∧
    ∃ xs, KT H kvs xs ∧ h.DictOfH (tupleKind (mixKind P w)) a xs := by
  obtain ⟨z, y, xs, r, o, es, ep, h1, h2, h3, h4, h5⟩ := (show ObjOk P w H h a (.dT kvs) from rd_of ok e)
  refine ⟨z, y, xs, r, o, es, ep, h1, h2, h3, h4, fun x hx => ?_, h5⟩
  have all : ∀ {l : List (List Key × V)} {m : List (List Key × Addr × Value)}, KT H l m → ∀ x ∈ m, (tupleKind (mixKind P w)).is h x.1 x.2.1 := by
    intro l m q
    induction q with
    | nil => intro x hx; exact nomatch hx
    | @cons p q ps qs hq t ih =>
      intro x hx
      rcases List.mem_cons.mp hx with e | hx
      · subst e
        exact key_of ok (by rw [← hq.1]; exact hq.2.1)
      · exact ih x hx
  exact all r x hx
theorem dt_of {kvs : List (List Key × V)} (ok : HOk P w H h) (e : H a = some (.dT kvs)) : kvs.length ≤ sizeLine ∧ (a == sysModules) = false ∧
    ∃ xs, KT H kvs xs ∧ h.DictOfH (tupleKind (mixKind P w)) a xs := dt_rd ok (.inl e)
end

def DGet (H : Hp) (a : Addr) (y : V) (r : Option V) : Prop :=
  (∃ kvs k, Rd H a (.dK kvs) ∧ y = kV k ∧ r = valV kvs k) ∨ ∃ kvs k b, Rd H a (.dT kvs) ∧ y = .ref b ∧ H b = some (.tup (k.map kV)) ∧ r = valV kvs k
def DPut (H : Hp) (a : Addr) (y v : V) (H' : Hp) : Prop :=
  (∃ kvs k, H a = some (.dK kvs) ∧ y = kV k ∧ kvs.length < sizeLine ∧ H' = upd H a (.dK (putK kvs k v))) ∨
  ∃ kvs k b, H a = some (.dT kvs) ∧ y = .ref b ∧ H b = some (.tup (k.map kV)) ∧ kvs.length < sizeLine ∧ H' = upd H a (.dT (putK kvs k v))
theorem DGet.k {H : Hp} {a : Addr} {kvs : List (Key × V)} {k : Key} (e : H a = some (.dK kvs)) : DGet H a (kV k) (valV kvs k) := .inl ⟨kvs, k, .inl e, rfl, rfl⟩
theorem DGet.t {H : Hp} {a b : Addr} {kvs : List (List Key × V)} {k : List Key} (e : H a = some (.dT kvs)) (eb : H b = some (.tup (k.map kV))) : DGet H a (.ref b) (valV kvs k) := .inr ⟨kvs, k, b, .inl e, rfl, eb, rfl⟩
theorem DPut.k {H : Hp} {a : Addr} {kvs : List (Key × V)} {k : Key} {v : V} (e : H a = some (.dK kvs)) (hl : kvs.length < sizeLine) : DPut H a (kV k) v (upd H a (.dK (putK kvs k v))) := .inl ⟨kvs, k, e, rfl, hl, rfl⟩
theorem DPut.t {H : Hp} {a b : Addr} {kvs : List (List Key × V)} {k : List Key} {v : V} (e : H a = some (.dT kvs)) (eb : H b = some (.tup (k.map kV))) (hl : kvs.length < sizeLine) :
    DPut H a (.ref b) v (upd H a (.dT (putK kvs k v))) := .inr ⟨kvs, k, b, e, rfl, eb, hl, rfl⟩


section
variable {X : Cx} {pins : List (Addr × Obj)} {σ : St} {H : Hp} {s : Shared} {a : Addr} {y v : V} {u r : Value} {o : Option V} {A : Around} {E : Value → Shared → Prop}

theorem Inv.big (I : Inv X pins σ H s) : sysModules < s.heap.objs.size := by
  have h : mainGlobals < s.heap.objs.size := (I.mod.glob.keeps I.bk).lt
  exact Nat.lt_trans (by decide) h

theorem d_getItem {Q : Value → Shared → Prop} (hu : A.units + 1 < cLine) (I : Inv X pins σ H s) (g : DGet H a y (some v)) (ry : RelV y u) (h : ∀ w' s', Inv X pins σ H s' → RelV v w' → Q w' s') :
    wpAny (model X.prog X.w) A (getItem (.ref a) u) Q E s := by
  rcases g with ⟨kvs, k, e, ey, l⟩ | ⟨kvs, k, b, e, ey, eb, l⟩
  · subst ey
    obtain ⟨z, hd, vs, rel, dd⟩ := dk_rd I.hok e
    obtain ⟨w', hw, rw'⟩ := RelO.some_of (v := v) (o := valueAt vs k) (by rw [l]; exact rel.val k)
    exact wpAny_getItem_of (kV_is ry) dd.mapOf hw (h w' _ (I.tok _) rw')
  · subst ey
    cases (show u = Value.ref b from ry)
    obtain ⟨z, hd, xs, rel, dd⟩ := dt_rd I.hok e
    obtain ⟨w', hw, rw'⟩ := RelO.some_of (v := v) (o := (atKey xs k).map (·.2)) (by rw [l]; exact rel.val k)
    obtain ⟨p, hp, hp2⟩ := Option.map_eq_some_iff.mp hw
    refine wpAny_getItem_heap (tupleKind_room_in1 hu) (key_of I.hok eb) dd hp ?_
    rw [hp2]
    exact h w' _ (I.tok _) rw'
theorem d_in {Q : Value → Shared → Prop} (hu : A.units + 1 < cLine) (I : Inv X pins σ H s) (g : DGet H a y o) (ry : RelV y u) (h : ∀ s', Inv X pins σ H s' → Q (.bool o.isSome) s') :
    wpAny (model X.prog X.w) A (compareOp .In u (.ref a)) Q E s := by
  rcases g with ⟨kvs, k, e, ey, l⟩ | ⟨kvs, k, b, e, ey, eb, l⟩
  · subst ey
    obtain ⟨z, hd, vs, rel, dd⟩ := dk_rd I.hok e
    refine wpAny_in_of (kV_is ry) hd dd.mapOf ?_
    rw [← (rel.val k).isSome_eq, ← l]
    exact h _ (I.tok _)
  · subst ey
    cases (show u = Value.ref b from ry)
    obtain ⟨z, hd, xs, rel, dd⟩ := dt_rd I.hok e
    refine wpAny_in_heap (tupleKind_room_in1 hu) (key_of I.hok eb) hd dd ?_
    have q := (rel.val k).isSome_eq
    rw [Option.isSome_map] at q
    rw [← q, ← l]
    exact h _ (I.tok _)
theorem d_notIn {Q : Value → Shared → Prop} (hu : A.units + 1 < cLine) (I : Inv X pins σ H s) (g : DGet H a y o) (ry : RelV y u) (h : ∀ s', Inv X pins σ H s' → Q (.bool (!o.isSome)) s') :
    wpAny (model X.prog X.w) A (compareOp .NotIn u (.ref a)) Q E s := by
  rcases g with ⟨kvs, k, e, ey, l⟩ | ⟨kvs, k, b, e, ey, eb, l⟩
  · subst ey
    obtain ⟨z, hd, vs, rel, dd⟩ := dk_rd I.hok e
    refine wpAny_notIn_of (kV_is ry) hd dd.mapOf ?_
    rw [← (rel.val k).isSome_eq, ← l]
    exact h _ (I.tok _)
  · subst ey
    cases (show u = Value.ref b from ry)
    obtain ⟨z, hd, xs, rel, dd⟩ := dt_rd I.hok e
    refine wpAny_notIn_heap (tupleKind_room_in1 hu) (key_of I.hok eb) hd dd ?_
    have q := (rel.val k).isSome_eq
    rw [Option.isSome_map] at q
    rw [← q, ← l]
    exact h _ (I.tok _)
theorem d_write {h' : Heap} {t' : Nat} {ob : HO} (I : Inv X pins σ H s) (mu : Mut (H a)) (hs : Heap.SameBut a s.heap h') (he : ∃ q, h'.get? a = some q) (new : ObjOk X.prog X.w (upd H a ob) h' a ob) :
    Inv X pins σ (upd H a ob) { s with heap := h', toks := t' } :=
  I.write (x := a) (e := a) mu (.inl rfl) (fun b q hb z => (hs.2 b hb).trans z) he new
theorem dk_new {P : Program} {w : World} {H' : Hp} {h' : Heap} {kvs : List (Key × V)} {vs : List (Key × Value)} (z : kvs.length ≤ sizeLine) (hd : (a == sysModules) = false) (rel : KV kvs vs) (dd : h'.DictOf (mixKind P w) a vs) :
    ObjOk P w H' h' a (.dK kvs) := ⟨z, hd, vs, rel, dd⟩
end

section
variable {X : Cx} {pins : List (Addr × Obj)} {σ : St} {H : Hp} {s : Shared} {a : Addr} {kvs : List (Key × V)} {k : Key} {u : Value} {A : Around} {E : Value → Shared → Prop}
theorem d_len {Q : Value → Shared → Prop} (I : Inv X pins σ H s) (e : Rd H a (.dK kvs)) (h : ∀ t s', Inv X pins σ H s' → Q (.int kvs.length t) s') : wpAny (model X.prog X.w) A (call (.builtin "len") [.ref a]) Q E s := by
  obtain ⟨z, hd, vs, rel, dd⟩ := dk_rd I.hok e
  refine call_len_dict hd dd (by rw [← rel.length]; rw [sizeLine_eq] at z; omega) ?_
  rw [← rel.length]
  exact h _ _ (I.tok _)
end


theorem dict_typeIs {X : Cx} {pins : List (Addr × Obj)} {σ : St} {H : Hp} {s : Shared} {a : Addr} {y : V} {o : Option V} (I : Inv X pins σ H s) (g : DGet H a y o) : s.TypeIs (.ref a) "dict" := by
  rcases g with ⟨kvs, k, e, _, _⟩ | ⟨kvs, k, b, e, _, _, _⟩
  · obtain ⟨_, _, vs, _, dd⟩ := dk_rd I.hok e
    exact dd.typeIs
  · obtain ⟨_, _, xs, _, dd⟩ := dt_rd I.hok e
    exact dd.typeIs
section
variable {X : Cx} {o i e value : Expr} {pos pos' tpos : Pos} {td ty tv : TE}
end


theorem dk_empty {P : Program} {w : World} {H : Hp} (h : Heap) (hb : sysModules < h.objs.size) : ObjOk P w H (h.push { cls := .type "dict", data := .dict #[] }) h.objs.size (.dK []) :=
  ⟨Nat.zero_le _, beq_eq_false_iff_ne.mpr (Ne.symm (Nat.ne_of_lt hb)), [], .nil, Heap.DictOf.new h⟩
theorem dt_empty {P : Program} {w : World} {H : Hp} (h : Heap) (hb : sysModules < h.objs.size) : ObjOk P w H (h.push { cls := .type "dict", data := .dict #[] }) h.objs.size (.dT []) :=
  ⟨Nat.zero_le _, beq_eq_false_iff_ne.mpr (Ne.symm (Nat.ne_of_lt hb)), [], .nil, _, #[], 0, Heap.get?_push_size _ rfl, ⟨rfl, rfl, rfl⟩, rfl, rfl, List.nodup_nil⟩
def tDNewK : TE := fun _ H Q => ∀ p, H p = none → Q (.ref p) (upd H p (.dK []))
def tDNewT : TE := fun _ H Q => ∀ p, H p = none → Q (.ref p) (upd H p (.dT []))
section
variable {X : Cx} {pos : Pos}
theorem pe_dnewK : PE X (.Dict [] [] pos) tDNewK := fun pins s σ H Q I h =>
  wpAny_Dict_empty ⟨.ref s.heap.objs.size, _, I.laid (a := s.heap.objs.size) (o := .dK []) (t' := s.toks) (fun _ _ q => Heap.get?_push_of_some _ q) (Nat.le_refl _) (dk_empty s.heap I.big), rfl, h _ (I.hok.fresh (Nat.le_refl _))⟩
theorem pe_dnewT : PE X (.Dict [] [] pos) tDNewT := fun pins s σ H Q I h =>
  wpAny_Dict_empty ⟨.ref s.heap.objs.size, _, I.laid (a := s.heap.objs.size) (o := .dT []) (t' := s.toks) (fun _ _ q => Heap.get?_push_of_some _ q) (Nat.le_refl _) (dt_empty s.heap I.big), rfl, h _ (I.hok.fresh (Nat.le_refl _))⟩
end

def tPairs : List (TE × TE) → St → Hp → (List (V × V) → Hp → Prop) → Prop
  | [], _, H, Q => Q [] H
  | (tk, tv) :: r, σ, H, Q => tk σ H fun x H1 => tv σ H1 fun y H2 => tPairs r σ H2 fun ps H3 => Q ((x, y) :: ps) H3
abbrev VV : List (V × V) → List (Value × Value) → Prop := Paired fun p q => RelV p.1 q.1 ∧ RelV p.2 q.2
def PPs (X : Cx) (pos : Pos) (keys : List (Option Expr)) (values : List Expr) (trs : List (TE × TE)) : Prop :=
  ∀ (pins : List (Addr × Obj)) (s : Shared) (σ : St) (H : Hp) (Q : List (V × V) → Hp → Prop), Inv X pins σ H s → tPairs trs σ H Q →
    wpAny (model X.prog X.w) X.A (evalPairs (pairTrees keys values X.env pos)) (fun vs s' => ∃ ps H', Inv X pins σ H' s' ∧ VV ps vs ∧ Q ps H') X.xe s
theorem pps_nil {X : Cx} {pos : Pos} : PPs X pos [] [] [] := fun pins s σ H Q I h => pairTrees_nil_walk ⟨[], H, I, .nil, h⟩
theorem pps_cons {X : Cx} {pos : Pos} {k v : Expr} {ks : List (Option Expr)} {vs : List Expr} {tk tv : TE} {trs : List (TE × TE)} (hk : PE X k tk) (hv : PE X v tv) (hr : PPs X pos ks vs trs) :
    PPs X pos (some k :: ks) (v :: vs) ((tk, tv) :: trs) := fun pins s σ H Q I h =>
  pairTrees_cons_walk (thn (hk pins s σ H _ I h) fun u s1 ⟨x, H1, I1, rx, q1⟩ => thn (hv pins s1 σ H1 _ I1 q1) fun w2 s2 ⟨y, H2, I2, ry, q2⟩ =>
    thn (hr pins s2 σ H2 _ I2 q2) fun ws s3 ⟨ps, H3, I3, rel, q3⟩ => ⟨(x, y) :: ps, H3, I3, .cons ⟨rx, ry⟩ rel, q3⟩)

def mergeK (kvs more : List (Key × V)) : List (Key × V) := more.foldl (fun acc kv => putK acc kv.1 kv.2) kvs
theorem KV.merge : ∀ {more : List (Key × V)} {rs : List (Key × Value)} {kvs : List (Key × V)} {vs : List (Key × Value)}, KV more rs → KV kvs vs → KV (mergeK kvs more) (merged vs rs) := by
  intro more rs kvs vs r
  unfold KV at r
  induction r generalizing kvs vs with
  | nil => intro q; exact q
  | @cons p q ps qs h t ih =>
    intro r0
    have e : KV (putK kvs p.1 p.2) (stored vs q.1 q.2) := by
      have := r0.put p.1 h.2
      rw [← h.1]; exact this
    exact ih e
theorem length_mergeK : ∀ (more kvs : List (Key × V)), (mergeK kvs more).length ≤ kvs.length + more.length
  | [], kvs => by show kvs.length ≤ kvs.length + 0; omega
  | p :: r, kvs => by
    have h1 := length_mergeK r (putK kvs p.1 p.2)
    have h2 := length_putK kvs p.1 p.2
    show (mergeK (putK kvs p.1 p.2) r).length ≤ _
    rw [List.length_cons]; omega
theorem carries_of {P : Program} {w : World} : ∀ {kvs : List (Key × V)} {ws : List (Value × Value)}, VV (kvs.map fun kv => (kV kv.1, kv.2)) ws → ∃ rs, Carries (mixKind P w) ws rs ∧ KV kvs rs
  | [], _, r => by rw [List.map_nil] at r; cases r; exact ⟨[], True.intro, .nil⟩
  | p :: kvs, _, r => by
    rw [List.map_cons] at r
    cases r with
    | @cons a b as bs h t =>
      obtain ⟨rs, c, q⟩ := carries_of (P := P) (w := w) t
      obtain ⟨b1, b2⟩ := b
      exact ⟨(p.1, b2) :: rs, ⟨kV_is h.1, rfl, c⟩, .cons ⟨rfl, h.2⟩ q⟩
def tDisp (trs : List (TE × TE)) : TE := fun σ H Q => ∀ p, H p = none → tPairs trs σ (upd H p (.dK [])) fun ps H2 => H2 p = some (.dK []) ∧ ∃ kvs : List (Key × V), ps = kvs.map (fun kv => (kV kv.1, kv.2)) ∧ kvs.length ≤ 15 ∧ Q (.ref p) (upd H2 p (.dK (mergeK [] kvs)))
theorem pe_disp {X : Cx} {pos : Pos} {keys : List (Option Expr)} {values : List Expr} {trs : List (TE × TE)} (h : PPs X pos keys values trs) (hall : keys.all (·.isSome) = true) (hl : keys.length = values.length) (h0 : keys ≠ [])
    (h15 : keys.length ≤ 15) : PE X (.Dict keys values pos) (tDisp trs) := by
  intro pins s σ H Q I q
  have hn := I.hok.fresh (Nat.le_refl s.heap.objs.size)
  have I1 := I.laid (a := s.heap.objs.size) (o := .dK []) (h' := s.heap.push { cls := .type "dict", data := .dict #[] }) (t' := s.toks) (fun _ _ q => Heap.get?_push_of_some _ q) (Nat.le_refl _) (dk_empty s.heap I.big)
  refine wpAny_Dict_walk (knd := mixKind X.prog X.w) hall hl h0 h15 (thn (h pins _ σ _ _ I1 (q _ hn)) fun ws s2 ⟨ps, H2, I2, rel, e, kvs, ep, lk, q2⟩ => ?_)
  subst ep
  obtain ⟨rs, c, rk⟩ := carries_of (P := X.prog) (w := X.w) rel
  obtain ⟨z, hd, vs0, r0, dd⟩ := dk_of I2.hok e
  cases r0
  refine ⟨rs, c, dd, fun h' dd' hs => ⟨.ref s.heap.objs.size, _, ?_, rfl, q2⟩⟩
  have hz : (mergeK [] kvs).length ≤ sizeLine := by
    have h1 := length_mergeK kvs []
    rw [List.length_nil] at h1
    rw [sizeLine_eq]; omega
  have he : ∃ q, h'.get? s.heap.objs.size = some q := let ⟨q, _, _, hq, _⟩ := dd'; ⟨q, hq⟩
  exact d_write I2 (by rw [e]; exact True.intro) hs he (dk_new hz hd (rk.merge .nil) dd')


structure M1 (X : Cx) (o : Expr) (m : Str) (apos : Pos) (e : Expr) (cpos : Pos) : Prop where
  base : attributeBase o m X.env (eval o X.env) = eval o X.env
  few : ((backTo cpos (starEach [e] X.env)).all (fun x => !x.1) && (backToKw cpos (keywordEach [] X.env)).all (fun x => x.1.isSome)
    && decide (([e] : List Expr).length + ([] : List Keyword).length + (if ([] : List Keyword).isEmpty then 0 else 1) < 30)) = true
  line : (apos.endLine == cpos.line) = true
  trees : backTo cpos (starEach [e] X.env) = [(false, eval e X.env)]
structure M2 (X : Cx) (o : Expr) (m : Str) (apos : Pos) (e f : Expr) (cpos : Pos) : Prop where
  base : attributeBase o m X.env (eval o X.env) = eval o X.env
  few : ((backTo cpos (starEach [e, f] X.env)).all (fun x => !x.1) && (backToKw cpos (keywordEach [] X.env)).all (fun x => x.1.isSome)
    && decide (([e, f] : List Expr).length + ([] : List Keyword).length + (if ([] : List Keyword).isEmpty then 0 else 1) < 30)) = true
  line : (apos.endLine == cpos.line) = true
  trees : backTo cpos (starEach [e, f] X.env) = [(false, eval e X.env), (false, eval f X.env)]

section
variable {X : Cx} {pins : List (Addr × Obj)} {σ : St} {H : Hp} {s : Shared} {a : Addr} {y d : V} {u r : Value} {o : Option V} {A : Around} {E : Value → Shared → Prop}
theorem d_get2 {Q : Value → Shared → Prop} (hu : A.units + 1 < cLine) (I : Inv X pins σ H s) (g : DGet H a y o) (ry : RelV y u) (rd : RelV d r) (h : ∀ w' s', Inv X pins σ H s' → RelV (o.getD d) w' → Q w' s') :
    wpAny (model X.prog X.w) A (call (.builtin "dict.get") [.ref a, u, r]) Q E s := by
  rcases g with ⟨kvs, k, e, ey, l⟩ | ⟨kvs, k, b, e, ey, eb, l⟩
  · subst ey
    obtain ⟨z, hd, vs, rel, dd⟩ := dk_rd I.hok e
    refine call_meetsIn PySem.F.slot_dict_get dd.typeIs PySem.F.entry_dict_get (PySem.F.args_dict_get_3 _ _ _) (meets_dict_get_default (mixKind X.prog X.w) a (kV_is ry) hd r) ⟨_, dd.mapOf, h _ _ (I.tok _) ?_⟩
    rw [l]
    exact (rel.val k).getD rd
  · subst ey
    cases (show u = Value.ref b from ry)
    obtain ⟨z, hd, xs, rel, dd⟩ := dt_rd I.hok e
    refine call_meetsIn PySem.F.slot_dict_get dd.typeIs PySem.F.entry_dict_get (PySem.F.args_dict_get_3 _ _ _) (meetsH_dict_get_default (tupleKind (mixKind X.prog X.w)) a b hd r) ⟨tupleKind_room_in1 hu, k, xs, key_of I.hok eb, dd, h _ _ (I.tok _) ?_⟩
    rw [l]
    exact (rel.val k).getD rd
end

section
variable {X : Cx} {o e f : Expr} {apos cpos : Pos} {td ty tx : TE}
end

section
variable {X : Cx} {pins : List (Addr × Obj)} {σ : St} {H : Hp} {s : Shared} {a : Addr} {kvs : List (Key × V)} {A : Around} {E : Value → Shared → Prop}
end


section
variable {X : Cx} {pins : List (Addr × Obj)} {σ : St} {H : Hp} {s : Shared} {a : Addr} {y : V} {u : Value} {A : Around} {E : Value → Shared → Prop}
end
end L2

namespace Att
open PySem PySem.W PySem.Calls PyProof.Rows

theorem ints_of_wellAll {P : Params} {h : Heap} : ∀ (ns : List Int) (vs : List Value), WellAll P h vs (ns.map WData.int) → IntsAre vs ns := by
  intro ns
  induction ns with
  | nil =>
    intro vs w
    rw [List.map_nil] at w
    cases w
    exact .nil
  | cons n ns ih =>
    intro vs w
    rw [List.map_cons] at w
    cases w with
    | cons a b =>
      cases a
      exact .cons _ _ (ih _ b)

theorem script_of {l : OpenLaw} {n : Nat} (hn : l.most = some n) {P : Params} {h : Heap} {args : List WData} {vals : List Value}
    (hpre : l.row.toRowW.claim.pre args = true) (hwl : WellAll P h vals args) :
    ∃ a vs ns, vals = [Value.ref a] ∧ args = [WData.list (ns.map WData.int)] ∧ h.get? a = some { cls := .type "list", data := .seq vs.toArray } ∧ IntsAre vs ns ∧ ns.length ≤ n := by
  have hsh : WShape.hasAll [] args [.list .int] = true := (pre_splitW hpre).1
  have hc : l.pre.holds [] { args := args } = true := (pre_splitW hpre).2
  obtain ⟨d, r, rfl, h1, h2⟩ := hasAllW_cons hsh
  obtain rfl := hasAllW_nil h2
  obtain ⟨xs, rfl, h3⟩ := hasW_list h1
  obtain ⟨ns, rfl⟩ := items_int h3
  have hlen : ns.length ≤ n := by
    unfold OpenLaw.pre at hc
    have h4 : (WTm.not (.lt (.lit (.int (n : Int))) (.len (.arg 0)))).holds [] { args := [.list (ns.map .int)] } = true := by
      have h4 := (holds_andW hc).1
      rw [hn] at h4
      exact h4
    have h5 := condW_of h4 (w_not (w_lt w_lit (w_len_list (w_arg rfl))))
    rw [List.length_map] at h5
    refine Nat.le_of_not_lt fun q => ?_
    have q' : (n : Int) < ((ns.length : Nat) : Int) := by omega
    first
      | (rw [decide_eq_true q'] at h5; exact absurd h5 (by decide))
      | (simp at h5; omega)
  cases hwl with
  | cons w1 w2 =>
    cases w2
    cases w1 with
    | list ho hall => exact ⟨_, _, ns, rfl, rfl, ho, ints_of_wellAll ns _ hall, hlen⟩

theorem post_true (l : OpenLaw) (args : List WData) : l.row.toRowW.claim.post args (.bool true) args = true :=
  postW_of (r := l.row.toRowW) (X := (true == true))
    (show WShape.has [] (.bool true) .bool = true by first | rfl | decide | simp [WShape.has, WShape.arms, WShape.armsAll])
    (show (WTm.eq .res (.lit (.bool true))).value [] { args := args, res := some (.bool true), after := args } = some (.bool (true == true)) from w_eq_bool (w_res rfl) w_lit) rfl

theorem attach_call {l : OpenLaw} {n : Nat} {q : Program} {loose : List Str} {XP : (Str → Option Value) → Heap → Prop} {YP : World → Heap → Prop} {d : DefRec}
    (hn : l.most = some n) (hdf : d.params.defaults = [])
    (call : ∀ (w : World) (s₀ s₁ : Shared) (mg mb : Str → Option Value) (fa : Addr) (o : Obj) (pm cd doc : Value) (a : Addr) (vs : List Value) (ns : List Int),
      Ground q loose [] XP w s₀ mg mb s₁.heap → YP w s₁.heap →
      s₁.heap.get? fa = some o → o.data = .func (docDef d.name d.params d.body d.scope pm cd doc) → s₁.heap.CodeRec cd d.name → mg d.name = some (.ref fa) →
      s₁.heap.get? a = some { cls := .type "list", data := .seq vs.toArray } → IntsAre vs ns → ns.length ≤ n → s₁.gens = #[] →
      codeAny (model l.prog w) callerA (.call (.ref fa) ⟨[.ref a], []⟩) (fun r s' => r = .ok (.ret (.bool true)) ∧ OldK s₁.heap s'.heap ∧ s'.os = s₁.os ∧ AllBare s'.gens) s₁) :
    WalkO q loose XP YP l.row.toRowW d [] (fun f vs => PySem.call f vs) := by
  intro w s₀ s₁ mg mb G Y fa o pm cd doc dV kV ho hd hcd hD hmg hg args vals as hpre hlay hrd hwl hlo
  obtain rfl : dV = .none := Dflts.none hD hdf
  obtain rfl : kV = .none := Dflts.noKw hD
  obtain ⟨a, vs, ns, rfl, rfl, hobj, hints, hlen⟩ := script_of hn hpre hwl
  refine enter_call (codeAny_mono (call w s₀ s₁ mg mb fa o pm cd doc a vs ns G Y ho (fd_plain hd) hcd hmg hobj hints hlen hg) fun r s' hq => ?_)
  obtain ⟨rfl, h2, h3, h4⟩ := hq
  exact ⟨.inl ⟨.bool true, .bool true, [], rfl, fun _ => rfl, .bool true, post_true l _, fun _ => ⟨List.Pairwise.nil, fun _ hm => (nomatch hm)⟩⟩, h2, h3, h4⟩

section
variable {prog : Program} {w : World} {A : Around} {E : Value → Shared → Prop} {s : Shared} {K : Frag}

end
end Att

namespace L2
open PySem PySem.Spec PyProof.Rows

theorem vals_ints : ∀ {vs : List Value} {ns : List Int}, IntsAre vs ns → Vals (ns.map V.int) vs
  | _, _, .nil => .nil
  | _, _, .cons n t h => .cons ⟨t, rfl⟩ (vals_ints h)

end L2

namespace L2
open PySem PySem.Spec PyProof.Rows

end L2



namespace L2
open PySem PySem.Spec PyProof.Rows

def defArgs (s : Stmt) : Arguments := match s with
  | .FunctionDef _ a _ _ _ _ _ _ _ _ => a
  | _ => { posonlyargs := [], args := [], vararg := none, kwonlyargs := [], kw_defaults := [], kwarg := none, defaults := [] }
def defBody (s : Stmt) : List Stmt := match s with
  | .FunctionDef _ _ b _ _ _ _ _ _ _ => b
  | _ => []
def defScope (s : Stmt) : Scope := match s with
  | .FunctionDef _ _ _ _ _ _ sc _ _ _ => sc
  | _ => { kind := .function, names := [], isGenerator := false, isCoroutine := false }

abbrev CX0 : CXT := fun _ _ _ _ _ _ => False
abbrev E0 : XK := fun _ _ _ => False
structure Fun (K : PySem.W.Frag) (x qual : Str) (st : Stmt) (f : Addr) (fd : FuncData) : Prop where
  ex : ∃ (oc : Value) (od : Option Addr) (kV doc pm : Value) (an : Option Addr) (cdv ct : Value) (osl : Array (Option Value)),
    fd = PySem.W.fnOf x qual (defArgs st) (defBody st) (defScope st) .none kV doc pm an cdv ct ∧ K.lookup f = some ⟨oc, od, .func fd, osl⟩ ∧ PySem.W.codeIn K cdv qual = true
  kp : PySem.W.keepIn K (.ref f) = true
section
variable {P : Program} {w : World} {K : PySem.W.Frag} {mg : Str → Option Value} {base : Heap}
theorem Fun.ok {x qual : Str} {st : Stmt} {f : Addr} {fd : FuncData} {N ps : List Str} {k : Nat} {sp : Sp} (F : Fun K x qual st f fd) (S : FnScope N ps (defScope st)) (len : ∀ vs H Q E, sp vs H Q E → vs.length = ps.length)
    (hbody : ∀ (cdv : Value) (A : Around) (outer : List Env) (s : Shared) (H : Hp) (vs : List V) (Q : VK) (E : XK), Room k (A.deeper (envOfC qual (defScope st) s.heap.objs.size f cdv)) → sp vs H Q E →
      ∃ t, PSs (cxOf CX0 P w K mg base N qual (defScope st) f cdv A outer s H E).nox (defBody st) t ∧ t { nx := fun _ H' => Q .non H', rt := Q } (start N vs) H) : FnOk P w K mg base CX0 (k + 1) f fd ps sp := by
  obtain ⟨oc, od, kV, doc, pm, an, cdv, ct, osl, rfl, lk, hcd⟩ := F.ex
  refine fn_of lk hcd S len fun A outer s H vs Q E hr hsp => ?_
  obtain ⟨t, h, q⟩ := hbody cdv A outer s H vs Q E hr hsp
  exact ⟨t, h.nox, q⟩
theorem Fun.binds {x qual : Str} {st : Stmt} {f : Addr} {fd : FuncData} {ps : List Str} (F : Fun K x qual st f fd)
    (h : ∀ (kV doc pm : Value) (an : Option Addr) (cdv ct : Value) (us : List Value), us.length = ps.length → bindArgs (PySem.W.fnOf x qual (defArgs st) (defBody st) (defScope st) .none kV doc pm an cdv ct) ⟨us, []⟩ = pure (ps.zip us)) : Binds K fd ps [] := by
  obtain ⟨oc, od, kV, doc, pm, an, cdv, ct, osl, rfl, lk, hcd⟩ := F.ex
  exact .all (h kV doc pm an cdv ct)
theorem fun_mk {x qual : Str} {st : Stmt} {f : Addr} {oc : Value} {od an : Option Addr} {osl : Array (Option Value)} {kV doc pm cdv ct : Value} (l : K.lookup f = some ⟨oc, od, .func (PySem.W.fnOf x qual (defArgs st) (defBody st) (defScope st) .none kV doc pm an cdv ct), osl⟩)
    (c : PySem.W.codeIn K cdv qual = true) (k : PySem.W.keepIn K (.ref f) = true) : Fun K x qual st f (PySem.W.fnOf x qual (defArgs st) (defBody st) (defScope st) .none kV doc pm an cdv ct) := ⟨⟨oc, od, kV, doc, pm, an, cdv, ct, osl, rfl, l, c⟩, k⟩
end
theorem small1000 {n : Nat} (h : n ≤ 1000) : n < sizeLine := Nat.lt_of_le_of_lt h (by decide)

section
variable {X : Cx}
theorem call_lenD : CallR X (.builtin "len") (fun xs H Q => ∃ a kvs, xs = [V.ref a] ∧ H a = some (.dK kvs) ∧ Q (.int kvs.length) H) := by
  intro pins s σ H xs us Q I r h
  obtain ⟨a, kvs, rfl, ha, q⟩ := h
  obtain ⟨u, rfl, ru⟩ := vals1 r
  cases ru
  exact d_len I (.inl ha) fun t s' I' => ⟨.int kvs.length, H, I', ⟨t, rfl⟩, q⟩
end

theorem iteF {A B : Prop} (h : B) : if false = true then A else B := by
  rw [if_neg Bool.false_ne_true]
  exact h
theorem iteT {A B : Prop} (h : A) : if true = true then A else B := by
  rw [if_pos rfl]
  exact h
def Same (H H' : Hp) : Prop := ∀ b o, H b = some o → H' b = some o
theorem Same.refl (H : Hp) : Same H H := fun _ _ h => h
theorem Same.trans {H H1 H2 : Hp} (a : Same H H1) (b : Same H1 H2) : Same H H2 := fun c o h => b c o (a c o h)
theorem Same.free {H H' : Hp} (e : Same H H') {l : Addr} (h : H' l = Option.none) : H l = Option.none := by
  cases q : H l with
  | none => rfl
  | some o =>
    rw [e l o q] at h
    cases h
theorem Same.seq {K : PySem.W.Frag} {H H' : Hp} {a : Addr} {xs : List V} (e : Same H H') (h : SqL K H a xs) : SqL K H' a xs := by
  rcases h with (h | ⟨o, h⟩) | h
  · exact .inl (.inl (e _ _ h))
  · exact .inl (.inr ⟨o, e _ _ h⟩)
  · exact .inr h

section
variable {κ : Type} [DecidableEq κ]
end
end L2
namespace L2
open PySem PySem.Spec PyProof.Rows

def closL : List (Str × NameKind) → List (Str × Addr) → List (Str × Addr) → List (Str × Addr)
  | [], _, cs => cs
  | (n, k) :: r, cells, cs => closL r cells (if k == .free then (match cells.lookup n with | some a => (n, a) :: cs | none => cs) else cs)
theorem closureFor_L {scope : Scope} {env : Env} (h : ∀ y ∈ scope.names, y.2 = .free → (env.cells.lookup y.1).isSome = true) : closureFor scope env = pure (closL scope.names env.cells []) := by
  have key : ∀ (l : List (Str × NameKind)) (cs : List (Str × Addr)), (∀ y ∈ l, y.2 = .free → (env.cells.lookup y.1).isSome = true) →
      (forIn l cs (fun (x : Str × NameKind) (cs : List (Str × Addr)) => (if (x.2 == NameKind.free) = true then (do let a ← cellOf env x.1; pure (ForInStep.yield ((x.1, a) :: cs))) else (pure (ForInStep.yield cs) : Sem _))) : Sem (List (Str × Addr))) = pure (closL l env.cells cs) := by
    intro l
    induction l with
    | nil => intro cs _; rfl
    | cons y r ih =>
      intro cs hy
      obtain ⟨n, k⟩ := y
      rw [List.forIn_cons]
      by_cases hk : k = .free
      · subst hk
        have hs := hy (n, .free) List.mem_cons_self rfl
        cases e : env.cells.lookup n with
        | none => rw [e] at hs; cases hs
        | some a =>
          have := ih ((n, a) :: cs) (fun z hz => hy z (List.mem_cons_of_mem _ hz))
          simp only [closL, beq_self_eq_true, if_true, e, cellOf, pure_bind]
          exact this
      · have hb : (k == NameKind.free) = false := by simpa using hk
        have := ih cs (fun z hz => hy z (List.mem_cons_of_mem _ hz))
        simp only [closL, hb, Bool.false_eq_true, if_false, pure_bind]
        exact this
  have := key scope.names [] h
  unfold closureFor
  simpa using this
theorem closL_sub : ∀ {l : List (Str × NameKind)} {cells cs : List (Str × Addr)} {x : Str} {c : Addr}, (∀ x c, cs.lookup x = some c → cells.lookup x = some c) → (closL l cells cs).lookup x = some c → cells.lookup x = some c
  | [], _, _, _, _, h, e => h _ _ e
  | (n, k) :: r, cells, cs, x, c, h, e => by
    refine closL_sub (l := r) (fun y d hy => ?_) e
    split at hy
    · split at hy
      · rename_i a ha
        by_cases hyn : y = n
        · subst hyn
          rw [List.lookup_cons_self] at hy
          rw [← hy]; exact ha
        · rw [List.lookup_cons] at hy
          have : (y == n) = false := by simpa using hyn
          rw [this] at hy
          exact h _ _ hy
      · exact h _ _ hy
    · exact h _ _ hy
theorem closL_keep : ∀ {l : List (Str × NameKind)} {cells cs : List (Str × Addr)} {x : Str}, (cs.lookup x).isSome = true → ((closL l cells cs).lookup x).isSome = true
  | [], _, _, _, h => h
  | (n, k) :: r, cells, cs, x, h => by
    refine closL_keep (l := r) ?_
    split
    · split
      · rw [List.lookup_cons]
        split
        · rfl
        · exact h
      · exact h
    · exact h
theorem closL_has : ∀ {l : List (Str × NameKind)} {cells cs : List (Str × Addr)} {x : Str}, (x, NameKind.free) ∈ l → (cells.lookup x).isSome = true → ((closL l cells cs).lookup x).isSome = true
  | [], _, _, _, h, _ => by cases h
  | (n, k) :: r, cells, cs, x, h, hs => by
    rcases List.mem_cons.mp h with e | h
    · cases e
      refine closL_keep (l := r) ?_
      simp only [beq_self_eq_true, if_true]
      cases e : cells.lookup n with
      | none => rw [e] at hs; cases hs
      | some a => simp only [List.lookup_cons_self]; rfl
    · exact closL_has (l := r) h hs
theorem mem_lookup {x : Str} {k : NameKind} : ∀ {l : List (Str × NameKind)}, l.lookup x = some k → (x, k) ∈ l := fun h => PySem.mem_of_lookup h

inductive Caps (X : Cx) (scope : Scope) : List Str → List Nat → Prop where
  | nil : Caps X scope [] []
  | cons {y : Str} {i : Nat} {ys : List Str} {is : List Nat} (h1 : X.N[i]? = some y) (h2 : X.env.kindOf y = some .cell ∨ X.env.kindOf y = some .free) (h3 : scope.names.lookup y = some .free) (h : Caps X scope ys is) : Caps X scope (y :: ys) (i :: is)

structure CompScope (scope : Scope) (x : Str) (ys : List Str) : Prop where
  kind : scope.kind = .function
  nocell : ∀ y ∈ scope.names, y.2 ≠ .cell
  names : ∀ y ∈ scope.names, y.2 = .local → scope.names.lookup y.1 = some .local
  own : scope.names.lookup x = some .local
  all : ∀ y ∈ scope.names, y.2 = .free → y.1 ∈ ys
  nd : (x :: ys).Nodup

def cxComp (X : Cx) (scope : Scope) (C : Addr) (N : List Str) (s : Shared) (H : Hp) (fp : List Addr) : Cx :=
  { X with N := N, s₀ := s, H₀ := H, env := compEnvC scope (closL scope.names X.env.cells []) C X.env, outer := X.stack, ex := fp, fn := fun _ => false, pn := [], xe := fun _ _ => False }

def capSt (σ : St) (is : List Nat) : St := is.map fun i => (σ[i]?).getD none

theorem lookup_map_fst {f : Str × NameKind → Str × NameKind} (hf : ∀ p, (f p).1 = p.1) {x : Str} : ∀ (l : List (Str × NameKind)), (l.map f).lookup x = (l.lookup x).map fun k => (f (x, k)).2
  | [] => rfl
  | (n, k) :: r => by
    have ih := lookup_map_fst hf (x := x) r
    have e : f (n, k) = (n, (f (n, k)).2) := Prod.ext (hf (n, k)) rfl
    rw [List.map_cons, e, List.lookup_cons, List.lookup_cons]
    cases hx : x == n with
    | true =>
      have e' : x = n := by simpa using hx
      subst e'; rfl
    | false => exact ih
theorem relabel_at (scope : Scope) (env : Env) (x : Str) : (relabel scope env).names.lookup x = (scope.names.lookup x).map fun k => if (k == NameKind.free && env.scope.kind == .function && env.kindOf x == some .cell) then NameKind.cell else k := by
  have hf : ∀ p : Str × NameKind, ((fun (n, k) => if (k == NameKind.free && env.scope.kind == .function && env.kindOf n == some .cell) then (n, NameKind.cell) else (n, k)) p : Str × NameKind).1 = p.1 := by
    intro p
    obtain ⟨n, k⟩ := p
    show (if _ then (n, NameKind.cell) else (n, k)).1 = n
    split <;> rfl
  have := lookup_map_fst hf (x := x) scope.names
  show List.lookup x (List.map _ scope.names) = _
  rw [this]
  congr 1
  funext k
  show (if _ then (x, NameKind.cell) else (x, k)).2 = _
  split <;> rfl
theorem relabel_lookup {scope : Scope} {env : Env} {x : Str} {k : NameKind} (nc : ∀ y ∈ scope.names, y.2 ≠ .cell) (h : (relabel scope env).names.lookup x = some k) (hk : k = .cell ∨ k = .free) : (x, NameKind.free) ∈ scope.names := by
  rw [relabel_at] at h
  cases q : scope.names.lookup x with
  | none => rw [q] at h; cases h
  | some k' =>
    have hm := mem_lookup q
    rw [q] at h
    have h : (if (k' == NameKind.free && env.scope.kind == .function && env.kindOf x == some .cell) then NameKind.cell else k') = k := Option.some.inj h
    by_cases hc : k' = .free
    · subst hc; exact hm
    · have hb : (k' == NameKind.free) = false := by simpa using hc
      rw [hb] at h
      have h : k' = k := h
      subst h
      rcases hk with z | z
      · exact absurd z (nc _ hm)
      · exact absurd z hc
theorem relabel_free {scope : Scope} {env : Env} {x : Str} (h : scope.names.lookup x = some .free) : (relabel scope env).names.lookup x = some .cell ∨ (relabel scope env).names.lookup x = some .free := by
  rw [relabel_at, h]
  show some (if _ then _ else _) = _ ∨ some (if _ then _ else _) = _
  split
  · exact .inl rfl
  · exact .inr rfl
theorem relabel_local {scope : Scope} {env : Env} {x : Str} (h : scope.names.lookup x = some .local) : (relabel scope env).names.lookup x = some .local := by
  rw [relabel_at, h]; rfl

theorem caps_look {X : Cx} {scope : Scope} {ys : List Str} {is : List Nat} {m : Str → Option Value} {h : Heap} {σ : St} (hc : Caps X scope ys is)
    (hl : ∀ (i : Nat) (x : Str) (v : V), X.N[i]? = some x → σ[i]? = some (some v) → Vis X.env.scope x → ∃ u, RelV v u ∧ Look X.env h m x u) (nd : True) :
    ∀ (j : Nat) (y : Str) (v : V), ys[j]? = some y → (capSt σ is)[j]? = some (some v) → ∃ u, RelV v u ∧ scope.names.lookup y = some .free ∧ ∃ c, X.env.cells.lookup y = some c ∧ h.IsCell c (some u) := by
  induction hc with
  | nil => intro j y v e; simp at e
  | @cons z i zs js h1 h2 h3 hr ih =>
    intro j y v e1 e2
    cases j with
    | zero =>
      simp at e1; subst e1
      have e2 : (σ[i]?).getD none = some v := by simpa [capSt] using e2
      have e3 : σ[i]? = some (some v) := by
        cases q : σ[i]? with
        | none => rw [q] at e2; simp at e2
        | some o => rw [q] at e2; simp at e2; rw [e2]
      have hv : Vis X.env.scope z := by
        rcases h2 with q | q
        · exact .inr (.inl q)
        · exact .inr (.inr q)
      obtain ⟨u, r, l⟩ := hl i z v h1 e3 hv
      refine ⟨u, r, h3, ?_⟩
      rcases l with ⟨k, _⟩ | ⟨_, c, e, ic⟩
      · rcases h2 with q | q
        · rw [q] at k; cases k
        · rw [q] at k; cases k
      · exact ⟨c, e, ic⟩
    | succ j =>
      exact ih j y v (by simpa using e1) (by simpa [capSt] using e2)
end L2
namespace L2
open PySem PySem.Spec PyProof.Rows

def CompW (is : List Nat) (tc : TT) (te : TE) (σ : St) (D : Addr) (J : It) (H1 : Hp) (Q : VK) : Prop := ∃ W : Nat → Nat → List V → Hp → Prop, (∃ m, W 0 m [] (upd H1 D (.lst []))) ∧
  ∀ i m ys H2, W i m ys H2 → (J.stop i H2 ∧ Q (.ref D) H2) ∨ (J.go i H2 ∧ ∀ x H3, J.yld i H2 x H3 → tc (some x :: capSt σ is) H3 fun b H4 => if b = true then
    te (some x :: capSt σ is) H4 fun y H5 => H5 D = some (.lst ys) ∧ ys.length < sizeLine ∧ ∃ m', m' < m ∧ W (i + 1) m' (ys ++ [y]) (upd H5 D (.lst (ys ++ [y])))
    else ∃ m', m' < m ∧ W (i + 1) m' ys H4)
def tComp (is : List Nat) (wi : TI) (tc : TT) (te : TE) : TE := fun σ H Q => wi σ H fun J H1 => ∀ D, H1 D = none → CompW is tc te σ D J H1 Q

theorem compTurn_if (elt target iter c : Expr) (scope : Scope) (pos : Pos) (it acc : Value) (env : Env) :
    compTurn (.ListComp elt [⟨target, iter, [c], 0⟩] scope pos) 0 it acc env = (standAt iter.pos >>= fun _ => pyNext it >>= fun r => match r with
      | none => pure (.done .next)
      | some v => letOwnedTupleGo target it v >>= fun _ => assign target env v >>= fun _ => isTrue c env (eval c env) >>= fun ok =>
        (if ok = true then (eval elt env >>= fun x => call (.builtin "list.append") [acc, x] >>= fun _ => pure ()) else pure ()) >>= fun _ =>
          again (.compLoop (.ListComp elt [⟨target, iter, [c], 0⟩] scope pos) 0 it acc env)) := by
  unfold compTurn
  simp only [List.forIn_cons, List.forIn_nil, List.getElem?_cons_zero, List.getElem?_cons_succ, List.getElem?_nil, bind_assoc, pure_bind, bne_self_eq_false, Bool.false_eq_true, if_false, if_true]
  congr 1
  funext _
  congr 1
  funext r
  cases r with
  | none => rfl
  | some v =>
    simp only [bind_assoc, pure_bind, if_true]
    congr 1; funext _
    congr 1; funext _
    congr 1; funext b
    cases b <;> simp

section
variable {prog : Program} {w : World} {A : Around} {R : Result → Shared → Prop} {s : Shared}
theorem codeAny_compLoop_if {elt target iter c : Expr} {scope : Scope} {pos : Pos} {it acc : Value} {env : Env} (I : Nat → Shared → Prop)
    (turn : ∀ n s, I n s → wpAny (model prog w) A (pyNext it) (fun r s₁ => match r with
      | none => R (.ok .next) s₁
      | some v => wpAny (model prog w) A (letOwnedTupleGo target it v) (fun _ s₁ => wpAny (model prog w) A (assign target env v) (fun _ s₂ => wpAny (model prog w) A (isTrue c env (eval c env)) (fun ok s₂ => if ok = true then wpAny (model prog w) A (eval elt env) (fun x s₃ =>
          wpAny (model prog w) A (call (.builtin "list.append") [acc, x]) (fun _ s₄ => ∃ m, m < n ∧ I m s₄) (notedBy (model prog w) A env fun e s' => R (.error e) s') s₃)
          (notedBy (model prog w) A env fun e s' => R (.error e) s') s₂ else ∃ m, m < n ∧ I m s₂) (notedBy (model prog w) A env fun e s' => R (.error e) s') s₂) (notedBy (model prog w) A env fun e s' => R (.error e) s') s₁) (notedBy (model prog w) A env fun e s' => R (.error e) s') s₁) (notedBy (model prog w) A env fun e s' => R (.error e) s') s)
    (n : Nat) (h : I n s) :
    codeAny (model prog w) A (.compLoop (.ListComp elt [⟨target, iter, [c], 0⟩] scope pos) 0 it acc env) R s := by
  refine codeAny_loop rfl I (fun n s hI => ?_) n h
  show wpAny _ _ ((compTurn (.ListComp elt [⟨target, iter, [c], 0⟩] scope pos) 0 it acc env).onRaise (fun x => do noteFrame x env; theTreesLotGoes x)) _ _ s
  refine wpAny_noted ?_
  rw [compTurn_if]
  refine wpAny_bind (wpAny_standAt (wpAny_bind (wpAny_mono (turn n s hI) (fun r s₁ h₁ => ?_) fun _ _ h' => h')))
  cases r with
  | none => exact wpAny_pure h₁
  | some v =>
    refine wpAny_bind (wpAny_mono h₁ (fun _ s₁ h₁ => wpAny_bind (wpAny_mono h₁ (fun _ s₂ h₂ => wpAny_bind (wpAny_mono h₂ (fun ok s₃ h₃ => ?_) fun _ _ h' => h')) fun _ _ h' => h')) fun _ _ h' => h')
    cases ok with
    | true =>
      rw [if_pos rfl] at h₃
      simp only [if_true]
      exact wpAny_bind (wpAny_bind (wpAny_mono h₃ (fun x s₃ h₃ => wpAny_bind (wpAny_mono h₃ (fun _ s₄ h₄ => wpAny_pure (wpAny_pure ⟨rfl, h₄⟩)) fun _ _ h' => h')) fun _ _ h' => h'))
    | false =>
      rw [if_neg Bool.false_ne_true] at h₃
      simp only [Bool.false_eq_true, if_false]
      exact wpAny_bind (wpAny_pure (wpAny_pure ⟨rfl, h₃⟩))
theorem codeAny_compLoop_no {elt target iter : Expr} {scope : Scope} {pos : Pos} {it acc : Value} {env : Env} (I : Nat → Shared → Prop)
    (turn : ∀ n s, I n s → wpAny (model prog w) A (pyNext it) (fun r s₁ => match r with
      | none => R (.ok .next) s₁
      | some v => wpAny (model prog w) A (letOwnedTupleGo target it v) (fun _ s₁ => wpAny (model prog w) A (assign target env v) (fun _ s₂ => wpAny (model prog w) A (eval elt env) (fun x s₃ =>
          wpAny (model prog w) A (call (.builtin "list.append") [acc, x]) (fun _ s₄ => ∃ m, m < n ∧ I m s₄) (notedBy (model prog w) A env fun e s' => R (.error e) s') s₃)
          (notedBy (model prog w) A env fun e s' => R (.error e) s') s₂) (notedBy (model prog w) A env fun e s' => R (.error e) s') s₁) (notedBy (model prog w) A env fun e s' => R (.error e) s') s₁) (notedBy (model prog w) A env fun e s' => R (.error e) s') s)
    (n : Nat) (h : I n s) :
    codeAny (model prog w) A (.compLoop (.ListComp elt [⟨target, iter, [], 0⟩] scope pos) 0 it acc env) R s := by
  refine codeAny_loop rfl I (fun n s hI => ?_) n h
  show wpAny _ _ ((compTurn (.ListComp elt [⟨target, iter, [], 0⟩] scope pos) 0 it acc env).onRaise (fun x => do noteFrame x env; theTreesLotGoes x)) _ _ s
  refine wpAny_noted ?_
  rw [compTurn_list1]
  refine wpAny_bind (wpAny_standAt (wpAny_bind (wpAny_mono (turn n s hI) (fun r s₁ h₁ => ?_) fun _ _ h' => h')))
  cases r with
  | none => exact wpAny_pure h₁
  | some v =>
    exact wpAny_bind (wpAny_mono h₁ (fun _ s₁ h₁ => wpAny_bind (wpAny_mono h₁ (fun _ s₂ h₂ => wpAny_bind (wpAny_bind (wpAny_mono h₂ (fun x s₃ h₃ => wpAny_bind (wpAny_mono h₃
      (fun _ s₄ h₄ => wpAny_pure (wpAny_pure ⟨rfl, h₄⟩)) fun _ _ h' => h')) fun _ _ h' => h'))) fun _ _ h' => h')) fun _ _ h' => h')
end
def PIfs (X : Cx) (ifs : List Expr) (tc : TT) : Prop := match ifs with
  | [] => tc = fun _ H Q => Q true H
  | [c] => PT X c tc
  | _ => False

section
variable {X : Cx}
theorem caps_len {scope : Scope} {ys : List Str} {is : List Nat} (h : Caps X scope ys is) : is.length = ys.length := by
  induction h with
  | nil => rfl
  | cons _ _ _ _ ih => simp [ih]
theorem caps_kind {scope : Scope} {ys : List Str} {is : List Nat} (h : Caps X scope ys is) {y : Str} (hy : y ∈ ys) : X.env.kindOf y = some .cell ∨ X.env.kindOf y = some .free := by
  induction h with
  | nil => cases hy
  | cons _ h2 _ _ ih =>
    rcases List.mem_cons.mp hy with e | e
    · rw [e]; exact h2
    · exact ih e
theorem comp_core {elt iter : Expr} {ifs : List Expr} {x : Str} {px pos : Pos} {scope : Scope} {ys : List Str} {is : List Nat} {tc : TT} {te : TE} {pins : List (Addr × Obj)} {σ : St} {H2 : Hp} {s2 : Shared} {it : Addr} {fp : List Addr} {tn : Nat → Heap → Prop} {J : It} {E : Value → Shared → Prop} {Q : VK} {RR : Value → Addr → Result → Shared → Prop}
    (hc : X.calm = true) (S : CompScope scope x ys) (hcap : Caps X scope ys is)
    (hif : ∀ C s H fp, PIfs (cxComp X scope C (x :: ys) s H fp) ifs tc) (he : ∀ C s H fp, PE (cxComp X scope C (x :: ys) s H fp) elt te)
    (I2 : Inv X pins σ H2 s2) (T : Turn X.prog X.w X.K (.Name x px) J fp it tn) (st2 : tn 0 s2.heap) (f2 : ∀ b ∈ fp, FpOk X pins H2 b)
    (hW : ∀ D, H2 D = none → ∃ W : Nat → Nat → List V → Hp → Prop, (∃ m, W 0 m [] (upd H2 D (.lst []))) ∧
      ∀ i m ys H2, W i m ys H2 → (J.stop i H2 ∧ Q (.ref D) H2) ∨ (J.go i H2 ∧ ∀ x H3, J.yld i H2 x H3 → tc (some x :: capSt σ is) H3 fun b H4 => if b = true then
        te (some x :: capSt σ is) H4 fun y H5 => H5 D = some (.lst ys) ∧ ys.length < sizeLine ∧ ∃ m', m' < m ∧ W (i + 1) m' (ys ++ [y]) (upd H5 D (.lst (ys ++ [y])))
        else ∃ m', m' < m ∧ W (i + 1) m' ys H4))
    (hRR : ∀ D C H' s', (X.s₀.heap.objs.size ≤ C ∧ ∀ p ∈ X.pn ++ pins, p.1 ≠ C) → (∃ m, s'.heap.Ns C m) → C ≠ X.env.locals → H' C = none → Inv X pins σ H' s' → (∀ h', Heap.SameBut C s'.heap h' → Inv X pins σ H' { s' with heap := h' }) → Q (.ref D) H' → RR (.ref D) C (.ok .next) s') :
    wpAny (model X.prog X.w) X.A (newList []) (fun acc s₃ => wpAny (model X.prog X.w) X.A (newFunctionEnv scope X.env.globals (closL scope.names X.env.cells []) [] X.env.qual none .none (some X.env)) (fun cenv s₄ =>
      codeAny (model X.prog X.w) X.A (.compStart (.ListComp elt [⟨.Name x px, iter, ifs, 0⟩] scope pos) 0 (.ref it) acc { cenv with scope := relabel scope X.env }) (RR acc cenv.locals) s₄) E s₃) E s2 := by
  have hf2 : H2 s2.heap.objs.size = none := I2.fresh
  refine wpAny_newObj_type (wpAny_newFunctionEnv S.nocell (by intro y hy; simp at hy) (fun h₁ hns₁ hsb₁ => ?_) S.kind)
  dsimp only at hns₁ hsb₁ ⊢
  -- the state with the new list
  have I3 : Inv X pins σ (upd H2 s2.heap.objs.size (.lst [])) { s2 with heap := s2.heap.push { cls := .type "list", data := .seq ([] : List Value).toArray } } := I2.lnew (t' := s2.toks) (ys := []) .nil (Nat.zero_le _)
  obtain ⟨W, ⟨m0, w0⟩, turn⟩ := hW _ hf2
  generalize hD : s2.heap.objs.size = D at I3 w0 turn hf2 ⊢
  generalize hs3 : ({ s2 with heap := s2.heap.push { cls := .type "list", data := .seq ([] : List Value).toArray } } : Shared) = s3 at I3
  have hp3 : s2.heap.push { cls := .type "list", dict := none, data := .seq ([] : List Value).toArray } = s3.heap := by rw [← hs3]
  rw [hp3] at hns₁ hsb₁ ⊢
  have tk3 : s2.toks = s3.toks := by rw [← hs3]
  generalize hH3 : upd H2 D (.lst []) = H3 at I3 w0
  generalize hC : s3.heap.objs.size = C at hns₁ hsb₁ ⊢
  have keep2 : ∀ b o, s2.heap.get? b = some o → s3.heap.get? b = some o := fun b o e => by rw [← hp3]; exact Heap.get?_push_of_some _ e
  have keep3 : ∀ b o, s3.heap.get? b = some o → h₁.get? b = some o := fun b o e => hsb₁.extBut b o (by rw [← hC]; exact Nat.ne_of_lt (Heap.lt_size e)) (Heap.get?_push_of_some _ e)
  have st3 : tn 0 s3.heap := T.keep _ _ _ st2 fun b _ o e => keep2 b o e
  have st4 : tn 0 h₁ := T.keep _ _ _ st3 fun b _ o e => keep3 b o e
  have fp3 : ∀ b ∈ fp, H3 b = none ∧ b < C := fun b hb => by
    obtain ⟨o, e, _⟩ := T.obj _ _ st2 b hb
    refine ⟨?_, by rw [← hC]; exact Heap.lt_size (keep2 b o e)⟩
    rw [← hH3, upd_ne (by rw [← hD]; exact Nat.ne_of_lt (Heap.lt_size e))]
    exact (f2 b hb).1
  have hcells : ∀ {z : Str} {c : Addr}, (closL scope.names X.env.cells []).lookup z = some c → X.env.cells.lookup z = some c := fun h => closL_sub (fun _ _ q => by cases q) h
  have hX : (cxComp X scope C (x :: ys) s3 H3 fp).Ok := by
    refine ⟨I3.ok.mod, S.kind, I3.ok.glob, I3.ok.blt, Nat.le_of_eq hC, fun y z c h1 h2 => I3.ok.inj y z c (hcells h1) (hcells h2), fun y hy => ?_, fun y c h _ => absurd (show false = true from h) Bool.false_ne_true, I3.ok.hd, I3.ok.frames, .inl rfl, fun b hb => ⟨Nat.ne_of_lt (fp3 b hb).2, fun y c h => (f2 b hb).2.2.2.2.1 y c (hcells h)⟩, fun b o e => I3.bs b o e, Nat.le_trans I3.ok.bsz I3.sz, fun b o e hb => ?_, fun b hb z => ?_, I3.stack, I3.stkFree⟩
    · have hy : (relabel scope X.env).names.lookup y = some .cell ∨ (relabel scope X.env).names.lookup y = some .free := hy
      have hm : (y, NameKind.free) ∈ scope.names := by
        rcases hy with q | q
        · exact relabel_lookup S.nocell q (.inl rfl)
        · exact relabel_lookup S.nocell q (.inr rfl)
      have hs : ∃ c, X.env.cells.lookup y = some c := by
        by_cases hk : X.env.kindOf y = some .cell ∨ X.env.kindOf y = some .free
        · exact I3.ok.has y hk
        · exact absurd (caps_kind hcap (S.all _ hm rfl)) hk
      exact Option.isSome_iff_exists.mp (closL_has hm (Option.isSome_iff_exists.mpr hs))
    · rcases (f2 b hb).2.2.2.1 with z | z
      · exact I3.ok.noex b o e z
      · exact absurd (Nat.lt_of_lt_of_le (Heap.lt_size e) (Nat.le_trans I3.ok.bsz z)) (Nat.lt_irrefl _)
    · rcases List.mem_cons.mp (I3.stkSub b z) with q | q
      · exact (f2 b hb).2.1 q
      · exact (f2 b hb).2.2.1 q
  -- the block's state at its start
  have I4 : Inv (cxComp X scope C (x :: ys) s3 H3 fp) [] (none :: capSt σ is) H3 { s2 with heap := h₁, toks := s2.toks + ([] : List (Str × Value)).length } := by
    obtain ⟨m3, hm3, hl3⟩ := id I3.loc
    refine ⟨hX, ?_, ?_, Un.kept keep3, ⟨_, hns₁, fun i y v e1 e2 e3 => ?_⟩, fun y c e => ?_, ?_, fun y c e => I3.freeC y c (hcells e), fun p hp => absurd (show p ∈ ([] : List (Addr × Obj)) from hp) (by simp), I3.hok.kept keep3, ?_⟩
    · show s2.os = s3.os
      rw [← hs3]
    · have := I2.bare; exact this
    · cases i with
      | zero => simp at e2
      | succ j =>
        obtain ⟨u, r, hfr, c, ec, ic⟩ := caps_look hcap hl3 trivial j y v (by have e1' : (x :: ys)[j + 1]? = some y := e1; simpa using e1') (by simpa using e2)
        have hk := relabel_free (env := X.env) hfr
        obtain ⟨c', ec'⟩ := Option.isSome_iff_exists.mp (closL_has (cs := []) (mem_lookup hfr) (by rw [ec]; rfl) (cells := X.env.cells))
        have : c' = c := by have := hcells ec'; rw [ec] at this; exact (Option.some.inj this).symm
        subst this
        obtain ⟨o, ho, hd⟩ := ic
        exact ⟨u, r, .inr ⟨hk, c', ec', o, keep3 _ _ ho, hd⟩⟩
    · obtain ⟨v, o, ho, hd⟩ := I3.cell y c (hcells e)
      exact ⟨v, o, keep3 _ _ ho, hd⟩
    · have := I3.hok.fresh (a := C) (Nat.le_of_eq hC)
      exact this
    · have := caps_len hcap
      show (none :: capSt σ is).length = (x :: ys).length
      simp [capSt, this]
  have lenσ : ∀ v : Option V, (v :: capSt σ is).set 0 = fun w => w :: capSt σ is := fun v => rfl
  have hown : (relabel scope X.env).names.lookup x = some .local := relabel_local S.own
  -- the loop
  have loop : codeAny (model X.prog X.w) X.A (.compLoop (.ListComp elt [⟨.Name x px, iter, ifs, 0⟩] scope pos) 0 (.ref it) (.ref D) (compEnvC scope (closL scope.names X.env.cells []) C X.env)) (RR (.ref D) C)
      { s2 with heap := h₁, toks := s2.toks + ([] : List (Str × Value)).length } := by
    have fin : ∀ {H' : Hp} {v : Option V} {s' : Shared}, Inv (cxComp X scope C (x :: ys) s3 H3 fp) [] (v :: capSt σ is) H' s' → Q (.ref D) H' → RR (.ref D) C (.ok .next) s' := fun {H' v s'} J q => by
      obtain ⟨m', hm', _⟩ := J.loc
      have hCL : C ≠ X.env.locals := Ne.symm (by rw [← hC]; exact Nat.ne_of_lt I3.lt)
      have back : ∀ h', Heap.SameBut C s'.heap h' → Inv X pins σ H' { s' with heap := h' } := fun h' hs' => by
        have os' : s'.os = s3.os := J.os
        refine I3.call' (s' := { s' with heap := h' }) (ch := fp) os' ⟨fun b o e n hb hx => ?_, fun b o e n hb hx => ?_, fun b o e n hx => J.base.free b o e n hx, fun b o e hx => ?_, J.base.tups, J.base.frzs, J.base.tbls⟩ (fun b o e => ?_) J.bare fun b hb => ?_
        · exact hs'.extBut b o (by rw [← hC]; exact Nat.ne_of_lt (Heap.lt_size e)) (J.base.keep b o e n hb hx)
        · obtain ⟨sl, e1⟩ := J.base.slot b o e n hb hx
          exact ⟨sl, hs'.extBut b _ (by rw [← hC]; exact Nat.ne_of_lt (Heap.lt_size e)) e1⟩
        · obtain ⟨o', e1⟩ := J.base.there b o e hx
          exact ⟨o', hs'.extBut b _ (by rw [← hC]; exact Nat.ne_of_lt (Heap.lt_size e)) e1⟩
        · refine (J.hok b o e).stay (fun c w' hc q => (hs'.2 c ?_).trans q) (fun _ q => q) fun _ _ q => q
          have fC : H' C = none := J.free
          rintro rfl
          rcases hc with rfl | hc
          · rw [fC] at e; cases e
          · rw [fC] at hc; cases hc
        · obtain ⟨_, a1, _, a2, a3, a4⟩ := f2 b hb
          exact ⟨a2, a1, a3, a4⟩
      refine hRR D C H' s' ⟨by rw [← hC]; exact I3.sz, fun p hp => by rw [← hC]; exact Nat.ne_of_lt (Heap.lt_size (I3.pin p hp).1)⟩ ⟨m', hm'⟩ hCL J.free ?_ back q
      have := back s'.heap (.refl ..)
      exact this
    have stat : ∀ {H' : Hp}, (∀ b ∈ fp, H' b = none) → ∀ b ∈ fp, FpOk (cxComp X scope C (x :: ys) s3 H3 fp) [] H' b := fun hn b hb => by
      obtain ⟨_, a1, a5, a2, a3, a4⟩ := f2 b hb
      refine ⟨hn b hb, Nat.ne_of_lt (fp3 b hb).2, fun z => ?_, .inl hb, fun y c e => a3 y c (hcells e), fun p hp => absurd (show p ∈ ([] : List (Addr × Obj)) from hp) (by simp)⟩
      rcases List.mem_cons.mp (I3.stkSub b z) with q | q
      · exact a1 q
      · exact a5 q
    have turnAt : ∀ n s, (∃ i v ys' H', Inv (cxComp X scope C (x :: ys) s3 H3 fp) [] (v :: capSt σ is) H' s ∧ tn i s.heap ∧ (∀ b ∈ fp, H' b = none) ∧ W i n ys' H') →
        wpAny (model X.prog X.w) X.A (pyNext (.ref it)) (fun r s₁ => match r with
          | none => RR (.ref D) C (.ok .next) s₁
          | some u => wpAny (model X.prog X.w) X.A (letOwnedTupleGo (.Name x px) (.ref it) u) (fun _ s₁ => wpAny (model X.prog X.w) X.A (assign (.Name x px) (compEnvC scope (closL scope.names X.env.cells []) C X.env) u) (fun _ s₂ =>
            ∃ (xx : V) (i : Nat) (ys' : List V) (H3' H6 : Hp) (pl : List (Addr × Obj)), Inv (cxComp X scope C (x :: ys) s3 H3 fp) ([] ++ pl) (some xx :: capSt σ is) H6 s₂ ∧
              (∀ s7 v7 H7, Inv (cxComp X scope C (x :: ys) s3 H3 fp) ([] ++ pl) (v7 :: capSt σ is) H7 s7 → Inv (cxComp X scope C (x :: ys) s3 H3 fp) [] (v7 :: capSt σ is) H7 s7 ∧ tn (i + 1) s7.heap ∧ ∀ b ∈ fp, H7 b = none) ∧
              (tc (some xx :: capSt σ is) H6 fun b H4 => if b = true then te (some xx :: capSt σ is) H4 fun y H5 => H5 D = some (.lst ys') ∧ ys'.length < sizeLine ∧ ∃ m', m' < n ∧ W (i + 1) m' (ys' ++ [y]) (upd H5 D (.lst (ys' ++ [y])))
                else ∃ m', m' < n ∧ W (i + 1) m' ys' H4)) (fun _ _ => False) s₁) (fun _ _ => False) s₁) (fun _ _ => False) s := by
      rintro n s ⟨i, v, ys', H', J, st, fr, w'⟩
      rcases turn i n ys' H' w' with ⟨stop, qn⟩ | ⟨go, step⟩
      · refine thn (T.done (cxComp X scope C (x :: ys) s3 H3 fp) rfl rfl rfl hc i [] s _ H' (fun _ _ => False) J (stat fr) st stop) fun r s4 ⟨hr, J4⟩ => ?_
        subst hr
        exact fin J4 qn
      · refine thn (T.item (cxComp X scope C (x :: ys) s3 H3 fp) rfl rfl rfl hc i [] s _ H' (fun _ _ => False) J (stat fr) st go) fun r s4 ⟨u, hr, h4⟩ => ?_
        subst hr
        refine thn h4 fun _ s5 ⟨xx, H5, J5, r5, y5, st5, fr5⟩ => ?_
        have J5' := J5.pinned (stat fr5) (T.obj _ _ st5)
        refine wpAny_assign_Name (store_ok (i := 0) J5' S.nd rfl (.inl hown) r5 (fun s6 J6 => ?_) (.inr hown))
        refine ⟨xx, i, ys', H5, H5, pinsAt fp s5.heap, J6, fun s7 v7 H7 J7 => ⟨J7.unpinned, T.keep _ _ _ st5 fun b hb o e => (J7.pin (b, o) (List.mem_append_right _ (List.mem_append_right _ (mem_pinsAt hb e)))).1, fun b hb => ?_⟩, step xx H5 y5⟩
        obtain ⟨o, e, d⟩ := T.obj _ _ st5 b hb
        exact (J7.pin (b, o) (List.mem_append_right _ (List.mem_append_right _ (mem_pinsAt hb e)))).2.1
    have start0 : ∃ i v ys' H', Inv (cxComp X scope C (x :: ys) s3 H3 fp) [] (v :: capSt σ is) H' { s2 with heap := h₁, toks := s2.toks + ([] : List (Str × Value)).length } ∧ tn i h₁ ∧ (∀ b ∈ fp, H' b = none) ∧ W i m0 ys' H' :=
      ⟨0, none, [], H3, I4, st4, fun b hb => (fp3 b hb).1, w0⟩
    have emit : ∀ (n : Nat) (xx : V) (i : Nat) (ys' : List V) (H4 : Hp) (pl : List (Addr × Obj)) (s₂ : Shared), Inv (cxComp X scope C (x :: ys) s3 H3 fp) ([] ++ pl) (some xx :: capSt σ is) H4 s₂ →
        (∀ s7 v7 H7, Inv (cxComp X scope C (x :: ys) s3 H3 fp) ([] ++ pl) (v7 :: capSt σ is) H7 s7 → Inv (cxComp X scope C (x :: ys) s3 H3 fp) [] (v7 :: capSt σ is) H7 s7 ∧ tn (i + 1) s7.heap ∧ ∀ b ∈ fp, H7 b = none) →
        (te (some xx :: capSt σ is) H4 fun y H5 => H5 D = some (.lst ys') ∧ ys'.length < sizeLine ∧ ∃ m', m' < n ∧ W (i + 1) m' (ys' ++ [y]) (upd H5 D (.lst (ys' ++ [y])))) →
        wpAny (model X.prog X.w) X.A (eval elt (compEnvC scope (closL scope.names X.env.cells []) C X.env)) (fun y s₃ => wpAny (model X.prog X.w) X.A (call (.builtin "list.append") [.ref D, y]) (fun _ s₄ =>
          ∃ m, m < n ∧ ∃ i v ys' H', Inv (cxComp X scope C (x :: ys) s3 H3 fp) [] (v :: capSt σ is) H' s₄ ∧ tn i s₄.heap ∧ (∀ b ∈ fp, H' b = none) ∧ W i m ys' H') (fun _ _ => False) s₃) (fun _ _ => False) s₂ := by
      intro n xx i ys' H4 pl s₂ J2 back q
      refine thn (he C s3 H3 fp ([] ++ pl) s₂ _ H4 _ J2 q) fun y s₃ ⟨yv, H5, J3, r3, q1, q2, q3⟩ => ?_
      refine thn (mt_append (X := cxComp X scope C (x :: ys) s3 H3 fp) ([] ++ pl) s₃ _ H5 (.ref D) [yv] (.ref D) [y] (fun v H7 => v = .non ∧ H7 = upd H5 D (.lst (ys' ++ [yv]))) J3 rfl (.cons r3 .nil) ⟨D, ys', yv, rfl, rfl, q1, q2, rfl, rfl⟩) fun _ s₄ ⟨_, H7, J4, _, _, e7⟩ => ?_
      subst e7
      obtain ⟨m', hm', w'⟩ := q3
      obtain ⟨b1, b2, b3⟩ := back s₄ _ _ J4
      exact ⟨m', hm', i + 1, some xx, ys' ++ [yv], _, b1, b2, b3, w'⟩
    have ex0 : ∀ {α : Type} {t : Sem α} {Q' : α → Shared → Prop} {E' : Value → Shared → Prop} {s : Shared}, wpAny (model X.prog X.w) X.A t Q' (fun _ _ => False) s → wpAny (model X.prog X.w) X.A t Q' E' s := fun h => wpAny_mono h (fun _ _ q => q) fun _ _ q => q.elim
    cases ifs with
    | nil =>
      have htc : tc = fun _ H Q => Q true H := hif C s3 H3 fp
      subst htc
      refine codeAny_compLoop_no (fun n s => ∃ i v ys' H', Inv (cxComp X scope C (x :: ys) s3 H3 fp) [] (v :: capSt σ is) H' s ∧ tn i s.heap ∧ (∀ b ∈ fp, H' b = none) ∧ W i n ys' H') (fun n s hI => ?_) m0 start0
      refine wpAny_mono (turnAt n s hI) (fun r s₁ h₁ => ?_) fun _ _ q => q.elim
      cases r with
      | none => exact h₁
      | some u =>
        refine wpAny_mono h₁ (fun _ s₁ h₁ => wpAny_mono h₁ (fun _ s₂ h₂ => ?_) fun _ _ q => q.elim) fun _ _ q => q.elim
        obtain ⟨xx, i, ys', _, H6, pl, J2, back, q⟩ := h₂
        dsimp only at q
        rw [if_pos rfl] at q
        exact wpAny_mono (emit n xx i ys' H6 pl s₂ J2 back q) (fun y s₃ h₃ => ex0 h₃) fun _ _ q => q.elim
    | cons c r0 =>
      cases r0 with
      | cons _ _ => exact (hif C s3 H3 fp).elim
      | nil =>
        have hpt : PT (cxComp X scope C (x :: ys) s3 H3 fp) c tc := hif C s3 H3 fp
        refine codeAny_compLoop_if (fun n s => ∃ i v ys' H', Inv (cxComp X scope C (x :: ys) s3 H3 fp) [] (v :: capSt σ is) H' s ∧ tn i s.heap ∧ (∀ b ∈ fp, H' b = none) ∧ W i n ys' H') (fun n s hI => ?_) m0 start0
        refine wpAny_mono (turnAt n s hI) (fun r s₁ h₁ => ?_) fun _ _ q => q.elim
        cases r with
        | none => exact h₁
        | some u =>
          refine wpAny_mono h₁ (fun _ s₁ h₁ => wpAny_mono h₁ (fun _ s₂ h₂ => ?_) fun _ _ q => q.elim) fun _ _ q => q.elim
          obtain ⟨xx, i, ys', _, H6, pl, J2, back, q⟩ := h₂
          refine wpAny_mono (hpt ([] ++ pl) s₂ _ H6 _ J2 q) (fun b s₃ h₃ => ?_) fun _ _ q => q.elim
          obtain ⟨H4, J4, q4⟩ := h₃
          cases b with
          | true =>
            rw [if_pos rfl] at q4 ⊢
            exact wpAny_mono (emit n xx i ys' H4 pl s₃ J4 back q4) (fun y s₃ h₃ => ex0 h₃) fun _ _ q => q.elim
          | false =>
            rw [if_neg Bool.false_ne_true] at q4 ⊢
            obtain ⟨m', hm', w'⟩ := q4
            obtain ⟨b1, b2, b3⟩ := back s₃ _ _ J4
            exact ⟨m', hm', i + 1, some xx, ys', _, b1, b2, b3, w'⟩
  exact codeAny_compStart_list loop (T.self X.A 0 _ _ _ st4 loop)
end
end L2
namespace L2
open PySem PySem.Spec PyProof.Rows
section
variable {X : Cx}
theorem clos_ok {scope : Scope} {x : Str} {ys : List Str} {is : List Nat} (ok : X.Ok) (S : CompScope scope x ys) (hcap : Caps X scope ys is) : closureFor scope X.env = pure (closL scope.names X.env.cells []) :=
  closureFor_L fun y hy hk => by
    obtain ⟨c, e⟩ := ok.has y.1 (caps_kind hcap (S.all y hy hk))
    rw [e]; rfl
theorem pe_comp {elt iter : Expr} {ifs : List Expr} {x : Str} {px pos : Pos} {scope : Scope} {ys : List Str} {is : List Nat} {wi : TI} {tc : TT} {te : TE}
    (hc : X.calm = true) (S : CompScope scope x ys) (hcap : Caps X scope ys is) (hi : PI X (.Name x px) iter wi)
    (hif : ∀ C s H fp, PIfs (cxComp X scope C (x :: ys) s H fp) ifs tc) (he : ∀ C s H fp, PE (cxComp X scope C (x :: ys) s H fp) elt te)
    (hs : ∀ x, foldedSetIterable iter X.env x = pure x := by intro _; rfl) : PE X (.ListComp elt [⟨.Name x px, iter, ifs, 0⟩] scope pos) (tComp is wi tc te) := by
  intro pins s σ H Q I h
  rw [eval_ListComp]
  refine wpAny_comprehension_free (use := none) rfl hs (clos_ok I.ok S hcap) S.kind S.names (thn (hi pins s σ H _ I h) fun v s1 h1 => thn h1 fun itv s2 h2 => ?_)
  obtain ⟨it, fp, tn, J, H2, rfl, I2, T, st2, f2, hW⟩ := h2
  refine comp_core (RR := fun acc C => compPost (model X.prog X.w) X.A X.xe none (EP X pins σ Q) acc C) hc S hcap hif he I2 T st2 f2 hW ?_
  intro D C H' s' hlt hns hne hfr I' back q
  obtain ⟨m, hm⟩ := hns
  exact ⟨m, hm, fun h' hs' => ⟨.ref D, H', back h' hs', rfl, q⟩⟩
theorem ps_setComp {elt iter : Expr} {ifs : List Expr} {x y : Str} {px py pos spos : Pos} {scope : Scope} {ys : List Str} {is : List Nat} {wi : TI} {tc : TT} {te : TE} {j : Nat}
    (hN : X.N.Nodup) (hj : X.N[j]? = some y) (hy : Loc X.env.scope y)
    (hc : X.calm = true) (S : CompScope scope x ys) (hcap : Caps X scope ys is) (hi : PI X (.Name x px) iter wi)
    (hif : ∀ C s H fp, PIfs (cxComp X scope C (x :: ys) s H fp) ifs tc) (he : ∀ C s H fp, PE (cxComp X scope C (x :: ys) s H fp) elt te)
    (hsw : swapsWith (.ListComp elt [⟨.Name x px, iter, ifs, 0⟩] scope pos) (some (.Name y py)) spos.line X.env = pure true := by rfl)
    (hf : X.fn y = true ∨ X.env.scope.names.lookup y = some .local := by first | exact .inl rfl | exact .inr rfl | assumption)
    (hs : ∀ x, foldedSetIterable iter X.env x = pure x := by intro _; rfl) : PS X (.Assign [.Name y py] (.ListComp elt [⟨.Name x px, iter, ifs, 0⟩] scope pos) spos) (tAsg (tComp is wi tc te) (gName j)) := by
  intro pins s σ H D I h
  rw [exec_Assign_Name_used _ _ _ _ hsw]
  refine wpAny_bind (wpAny_standAt (wpAny_bind ?_))
  show wpAny _ X.A (do let _ ← comprehension (.ListComp elt [⟨.Name x px, iter, ifs, 0⟩] scope pos) scope X.env _ (newList []) false (eval iter X.env) (some (assign (.Name y py) X.env))) _ _ s
  refine wpAny_bind (wpAny_mono (wpAny_comprehension_free (use := some (assign (.Name y py) X.env)) (Q := fun _ s' => SP X pins D .next s') rfl hs (clos_ok I.ok S hcap) S.kind S.names
    (thn (hi pins s σ H _ I h) fun v s1 h1 => thn h1 fun itv s2 h2 => ?_)) (fun _ s' hq => wpAny_pure (wpAny_pure hq)) fun _ _ e => e)
  obtain ⟨it, fp, tn, J, H2, rfl, I2, T, st2, f2, hW⟩ := h2
  refine comp_core (Q := fun x H1 => gName j x σ H1 D.nx) (RR := fun acc C => compPost (model X.prog X.w) X.A X.xe (some (assign (.Name y py) X.env)) (fun _ s' => SP X pins D .next s') acc C) hc S hcap hif he I2 T st2 f2 hW ?_
  intro Da C H' s' hlt hns hne hfr I' back q
  show wpAny _ X.A (assign (.Name y py) X.env (.ref Da)) _ _ _
  obtain ⟨m, hm⟩ := hns
  refine wpAny_assign_Name (store_ok2 I' hN hj hy (v := .ref Da) rfl (fun s2 I2' ⟨a, hsb, ha⟩ => ?_) hf)
  have hCa : C ≠ a := by
    rcases ha with e | e
    · rw [e]; exact hne
    · rintro rfl
      obtain ⟨v, o, ho, hd⟩ := I'.cell y C e
      obtain ⟨o2, es, ep, ho2, hd2, _⟩ := hm
      rw [ho] at ho2; cases ho2; rw [hd] at hd2; cases hd2
  refine ⟨m, hm.sameBut hsb hCa, fun h' hs' => ?_⟩
  -- the block's own names are let go: nothing else changes
  have hCn : ∀ y c, X.env.cells.lookup y = some c → c ≠ C := fun z c e q => by
    subst q
    obtain ⟨v, o, ho, hd⟩ := I'.cell z c e
    obtain ⟨o2, es, ep, ho2, hd2, _⟩ := hm
    rw [ho] at ho2; cases ho2; rw [hd] at hd2; cases hd2
  have I3 : Inv X pins (σ.set j (some (.ref Da))) H' { s2 with heap := h' } := by
    refine I2'.step (g' := s2.gens) (d' := s2.drawn) (t' := s2.toks) (ch := [C]) (fun b hb => ?_) (fun b o _ _ hb e _ => (hs'.2 b (fun z => hb (by simp [z]))).trans e) (fun b o _ _ hb e _ => ⟨o.slots, (hs'.2 b (fun z => hb (by simp [z]))).trans e⟩) (fun _ _ _ _ n => n) (fun b o hb e => ⟨o, (hs'.2 b (fun z => hb (by simp [z]))).trans e⟩)
      (fun _ _ e => e) (fun _ _ _ e => e) (fun b ps e => ⟨#[], by rw [e]; simp⟩) (fun m' hm' => hm'.sameBut hs' (Ne.symm hne)) (fun b o e => ?_) I2'.bare
    · have e : b = C := by simpa using hb
      subst e
      exact ⟨.inr hlt.1, hne, fun z c e => hCn z c e, hlt.2⟩
    · refine (I2'.hok b o e).stay (fun c w' hc q => (hs'.2 c ?_).trans q) (fun _ q => q) fun _ _ q => q
      rintro rfl
      rcases hc with rfl | hc
      · rw [hfr] at e; cases e
      · rw [hfr] at hc; cases hc
  exact ⟨_, H', I3, q⟩
end
end L2
namespace L2
open PySem PySem.Spec PyProof.Rows
def tyN (H : Hp) : V → Option String
  | .non => some "NoneType"
  | .bl _ => some "bool"
  | .int _ => some "int"
  | .str _ => some "str"
  | .ref a => match H a with
    | some (.lst _) => some "list"
    | some (.frz _ (.lst _)) => some "list"
    | some (.tup _) => some "tuple"
    | some (.dK _) => some "dict"
    | some (.dT _) => some "dict"
    | _ => none
  | _ => none
theorem tyN_of {K : PySem.W.Frag} {H : Hp} {x : V} {t : String} (h : tyN H x = some t) : TyOf K H x (.type t) := by
  cases x with
  | non => cases h; exact .non
  | bl b => cases h; exact .bl b
  | int i => cases h; exact .int i
  | str x => cases h; exact .str x
  | byt _ => cases h
  | flt _ => cases h
  | ty _ => cases h
  | ref a =>
    unfold tyN at h
    dsimp only at h
    split at h
    · rename_i e; cases h; exact .lst e
    · rename_i e; cases h; exact .frz e
    · rename_i e; cases h; exact .tup e
    · rename_i e; cases h; exact .dK e
    · rename_i e; cases h; exact .dT e
    · cases h
def tyL : List String := ["NoneType", "bool", "int", "str", "list", "tuple", "dict"]
theorem tyN_in {H : Hp} {x : V} {t : String} (h : tyN H x = some t) : t ∈ tyL := by
  cases x with
  | non => cases h; decide
  | bl b => cases h; decide
  | int i => cases h; decide
  | str x => cases h; decide
  | byt _ => cases h
  | flt _ => cases h
  | ty _ => cases h
  | ref a =>
    unfold tyN at h
    dsimp only at h
    split at h <;> first | (cases h; decide) | cases h
def isI (t T : String) : Bool := t == T || (T == "int" && t == "bool")
theorem kit_ty (K : PySem.W.Frag) : ∀ t ∈ tyL, ∀ T ∈ ["int", "bool", "str", "tuple", "list", "dict"], PySem.W.kitOne K (.type t) (.type T) = some (isI t T) := by
  intro t ht T hT
  simp only [tyL, List.mem_cons, List.not_mem_nil, or_false] at ht hT
  rcases ht with rfl | rfl | rfl | rfl | rfl | rfl | rfl <;> rcases hT with rfl | rfl | rfl | rfl | rfl | rfl <;> (unfold PySem.W.kitOne; first | rfl | decide +kernel | (simp only [PySem.W.kitCls]; rfl))
section
variable {X : Cx}
theorem call_isi : CallR X (.builtin "isinstance") (fun xs H Q => ∃ x T t, xs = [x, .ty T] ∧ T ∈ ["int", "bool", "str", "tuple", "list", "dict"] ∧ tyN H x = some t ∧ Q (.bl (isI t T)) H) := by
  intro pins s σ H xs us Q I r h
  obtain ⟨x, T, t, rfl, hT, ht, q⟩ := h
  obtain ⟨u, w', rfl, r1, r2⟩ := vals2 r
  cases r2
  exact isinst_ok I r1 (tyN_of ht) (kit_ty X.K t (tyN_in ht) T hT) fun tk => ⟨.bl _, H, I.tok tk, rfl, q⟩
end
end L2
namespace L2
open PySem PySem.Spec PyProof.Rows
section
variable {X : Cx}
theorem strs_of : ∀ {xs : List Str} {us : List Value}, Vals (xs.map V.str) us → StrsAre us xs
  | [], _, .nil => .nil
  | x :: xs, _, .cons r t => by
    obtain ⟨tk, e⟩ := (show ∃ t, _ = Value.str x t from r)
    rw [e]
    exact .cons _ _ (strs_of t)
def rJoin : V → List V → Hp → VK → Prop := fun x vs H Q => ∃ (z : Str) (a : Addr) (xs : List Str), x = .str z ∧ vs = [.ref a] ∧ H a = some (.lst (xs.map V.str)) ∧ (xs.map (·.length)).sum + xs.length * z.length ≤ 16777216 ∧ Q (.str (Txt.join z xs)) H
theorem mt_join : MtM X "str.join" rJoin := by
  intro pins s σ H x vs v us Q I rx rv h
  obtain ⟨z, a, xs, rfl, rfl, hH, hz, q⟩ := h
  obtain ⟨t, rfl⟩ := (show ∃ t, v = Value.str z t from rx)
  obtain ⟨u, rfl, ru⟩ := rv.one
  cases ru
  obtain ⟨_, its, n, rv, e⟩ := I.hok a _ hH
  refine join_list (items := its.toArray) ⟨_, e, rfl, _, rfl⟩ (by simpa using strs_of rv) hz fun t' k => ⟨.str _, H, I.tok k, ⟨_, rfl⟩, q⟩
end
end L2
namespace L2
open PySem PySem.Spec PyProof.Rows
@[irreducible] def Sel (b : Bool) (A B : Prop) : Prop := if b = true then A else B
theorem Sel.mk {b : Bool} {A B : Prop} (h1 : b = true → A) (h2 : b = false → B) : Sel b A B := by
  unfold Sel
  cases b with
  | true => exact h1 rfl
  | false => exact h2 rfl
theorem Sel.t {A B : Prop} (h : A) : Sel true A B := .mk (fun _ => h) fun e => by cases e
theorem Sel.f {A B : Prop} (h : B) : Sel false A B := .mk (fun e => by cases e) fun _ => h
theorem Sel.dec {p A B : Prop} [Decidable p] (h1 : p → A) (h2 : ¬ p → B) : Sel (decide p) A B := .mk (fun e => h1 (of_decide_eq_true e)) fun e => h2 (of_decide_eq_false e)
theorem Sel.ndec {p A B : Prop} [Decidable p] (h1 : ¬ p → A) (h2 : p → B) : Sel (!decide p) A B := .mk (fun e => h1 (by simpa using e)) fun e => h2 (by simpa using e)
theorem Sel.yes {b : Bool} {A B : Prop} (e : b = true) (h : A) : Sel b A B := by rw [e]; exact .t h
theorem Sel.no {b : Bool} {A B : Prop} (e : b = false) (h : B) : Sel b A B := by rw [e]; exact .f h
theorem sel_ite {b : Bool} {A B : Prop} (h : Sel b A B) : if b = true then A else B := by unfold Sel at h; exact h
theorem Sel.both {b : Bool} {A : Prop} (h : A) : Sel b A A := .mk (fun _ => h) fun _ => h

def mVar (i : Nat) : TE := fun σ H Q => match σ[i]? with | some (some v) => Q v H | _ => False
section
variable {X : Cx}
theorem PE.imp {e : Expr} {t t' : TE} (h : PE X e t) (i : ∀ σ H Q, t' σ H Q → t σ H Q) : PE X e t' := fun pins s σ H Q I q => h pins s σ H Q I (i _ _ _ q)
theorem PT.imp {e : Expr} {t t' : TT} (h : PT X e t) (i : ∀ σ H Q, t' σ H Q → t σ H Q) : PT X e t' := fun pins s σ H Q I q => h pins s σ H Q I (i _ _ _ q)
theorem PS.imp {e : Stmt} {t t' : TS} (h : PS X e t) (i : ∀ D σ H, t' D σ H → t D σ H) : PS X e t' := fun pins s σ H Q I q => h pins s σ H Q I (i _ _ _ q)
theorem OpR.imp {f : Value → Value → Sem Value} {r r' : R2} (h : OpR X f r) (i : ∀ x y H Q, r' x y H Q → r x y H Q) : OpR X f r' := fun pins s σ H x y v u Q I rx ry q => h pins s σ H x y v u Q I rx ry (i _ _ _ _ q)
theorem qv (i : Nat) {x : Str} {pos : Pos} (hN : X.N[i]? = some x := by rfl) (hv : Vis X.env.scope x := by first | exact Or.inl rfl | exact Or.inr (Or.inl rfl) | exact Or.inr (Or.inr rfl)) (hd : (x == ("__debug__" : Str)) = false := by decide)
    (hcd : (x == ("__classdict__" : Str)) = false := by decide) : PE X (.Name x pos) (mVar i) := (pe_var hN hv hd hcd).imp fun σ H Q q => by
  unfold mVar at q
  split at q
  · rename_i v e; exact ⟨v, e, q⟩
  · exact q.elim
theorem qgi {x : Str} {i : Int} {pos : Pos} (hm : ∃ t, X.mg x = some (.int i t)) (hg : Gl X x := by rfl) (hd : (x == ("__debug__" : Str)) = false := by decide) : PE X (.Name x pos) (tC (.int i)) := by
  obtain ⟨t, e⟩ := hm
  exact pe_glob hg e ⟨t, rfl⟩ hd
theorem qgs {x z : Str} {pos : Pos} (hm : ∃ t, X.mg x = some (.str z t)) (hg : Gl X x := by rfl) (hd : (x == ("__debug__" : Str)) = false := by decide) : PE X (.Name x pos) (tC (.str z)) := by
  obtain ⟨t, e⟩ := hm
  exact pe_glob hg e ⟨t, rfl⟩ hd
theorem op_mulG : OpR X (binaryOp .Mult) (rI IntMulOk fun i j => .int (i * j)) := opI fun _ _ _ _ _ _ _ hc q => mul_int q hc
def mMul : R2 := fun x y H Q => match x, y with
  | .int i, .int j => IntMulOk i j ∧ Q (.int (i * j)) H
  | _, _ => False
theorem oMul : OpR X (binaryOp .Mult) mMul := op_mulG.imp fun x y H Q q => by
  unfold mMul at q
  split at q
  · exact ⟨_, _, rfl, rfl, q.1, q.2⟩
  · exact q.elim
def mMod : R2 := fun x y H Q => match x, y with | .int i, .int j => 0 < j ∧ Q (.int (i % j)) H | _, _ => False
theorem oMod : OpR X (binaryOp .Mod) mMod := op_mod.imp fun x y H Q q => by
  unfold mMod at q
  split at q
  · exact ⟨_, _, rfl, rfl, q.1, q.2⟩
  · exact q.elim
def mPow : R2 := fun x y H Q => match x, y with | .int i, .int j => (0 ≤ j ∧ j ≤ 1000000 ∧ i.natAbs < 2 ^ 64) ∧ Q (.int (i ^ j.toNat)) H | _, _ => False
theorem oPow : OpR X (binaryOp .Pow) mPow := op_pow.imp fun x y H Q q => by
  unfold mPow at q
  split at q
  · exact ⟨_, _, rfl, rfl, q.1, q.2⟩
  · exact q.elim
def mLt : R2 := fun x y H Q => match x, y with | .int i, .int j => Q (.bl (decide (i < j))) H | _, _ => False
theorem oLt : OpR X (compareOp .Lt) mLt := op_lt.imp fun x y H Q q => by
  unfold mLt at q
  split at q
  · exact ⟨_, _, rfl, rfl, q⟩
  · exact q.elim
def mLe : R2 := fun x y H Q => match x, y with | .int i, .int j => Q (.bl (decide (i ≤ j))) H | _, _ => False
theorem oLe : OpR X (compareOp .LtE) mLe := op_le.imp fun x y H Q q => by
  unfold mLe at q
  split at q
  · exact ⟨_, _, rfl, rfl, q⟩
  · exact q.elim
def mGt : R2 := fun x y H Q => match x, y with | .int i, .int j => Q (.bl (decide (j < i))) H | _, _ => False
theorem oGt : OpR X (compareOp .Gt) mGt := op_gt.imp fun x y H Q q => by
  unfold mGt at q
  split at q
  · exact ⟨_, _, rfl, rfl, q⟩
  · exact q.elim
def mEq : R2 := fun x y H Q => match x, y with
  | .int i, .int j => Q (.bl (decide (i = j))) H
  | .str i, .str j => Q (.bl (decide (i = j))) H
  | .bl i, .bl j => Q (.bl (decide (i = j))) H
  | .non, .non => Q (.bl true) H
  | .non, .int _ => Q (.bl false) H | .int _, .non => Q (.bl false) H | .non, .bl _ => Q (.bl false) H | .bl _, .non => Q (.bl false) H | .non, .str _ => Q (.bl false) H | .str _, .non => Q (.bl false) H
  | .int _, .str _ => Q (.bl false) H | .str _, .int _ => Q (.bl false) H | .bl _, .str _ => Q (.bl false) H | .str _, .bl _ => Q (.bl false) H
  | _, _ => False
theorem decV {α : Type} [DecidableEq α] {f : α → V} (hf : ∀ a b, f a = f b → a = b) (a b : α) : decide (f a = f b) = decide (a = b) := by
  by_cases h : a = b
  · subst h; simp
  · rw [decide_eq_false h, decide_eq_false fun e => h (hf a b e)]
theorem oEq : OpR X (compareOp .Eq) mEq := op_eq.imp fun x y H Q q => by
  unfold mEq at q
  split at q
  · exact ⟨rfl, by rw [decV (f := V.int) fun _ _ e => V.int.inj e]; exact q⟩
  · exact ⟨rfl, by rw [decV (f := V.str) fun _ _ e => V.str.inj e]; exact q⟩
  · exact ⟨rfl, by rw [decV (f := V.bl) fun _ _ e => V.bl.inj e]; exact q⟩
  · exact ⟨rfl, by simpa using q⟩
  all_goals first | exact q.elim | exact ⟨rfl, q⟩
def mNe : R2 := fun x y H Q => match x, y with
  | .int i, .int j => Q (.bl (!decide (i = j))) H
  | .str i, .str j => Q (.bl (!decide (i = j))) H
  | .bl i, .bl j => Q (.bl (!decide (i = j))) H
  | .non, .non => Q (.bl false) H
  | .non, .int _ => Q (.bl true) H | .int _, .non => Q (.bl true) H | .non, .bl _ => Q (.bl true) H | .bl _, .non => Q (.bl true) H | .non, .str _ => Q (.bl true) H | .str _, .non => Q (.bl true) H
  | .int _, .str _ => Q (.bl true) H | .str _, .int _ => Q (.bl true) H | .bl _, .str _ => Q (.bl true) H | .str _, .bl _ => Q (.bl true) H
  | _, _ => False
theorem oNe : OpR X (compareOp .NotEq) mNe := op_ne.imp fun x y H Q q => by
  unfold mNe at q
  split at q
  · exact ⟨rfl, by rw [decV (f := V.int) fun _ _ e => V.int.inj e]; exact q⟩
  · exact ⟨rfl, by rw [decV (f := V.str) fun _ _ e => V.str.inj e]; exact q⟩
  · exact ⟨rfl, by rw [decV (f := V.bl) fun _ _ e => V.bl.inj e]; exact q⟩
  · exact ⟨rfl, by simpa using q⟩
  all_goals first | exact q.elim | exact ⟨rfl, q⟩
def mIsN : R2 := fun x y H Q => match y with | .non => Q (.bl (match x with | .non => true | _ => false)) H | _ => False
theorem oIs : OpR X (compareOp .Is) mIsN := op_isN.imp fun x y H Q q => by
  unfold mIsN at q
  split at q
  · refine ⟨rfl, ?_⟩
    cases x <;> simpa using q
  · exact q.elim
def mTest (t : TE) : TT := fun σ H Q => t σ H fun x H' => match x with | .bl k => Q k H' | _ => False
theorem qtc {op : CmpOp} {r : R2} {a b : Expr} {ta tb : TE} {pos : Pos} (ho : OpR X (compareOp op) r) (ha : PE X a ta) (hb : PE X b tb) (hm : behindInMarks op b = false := by first | exact nomark _ | rfl) : PT X (.Compare a [op] [b] pos) (mTest (tOp r ta tb)) := by
  intro pins s σ H Q I h
  refine wpAny_isTrue_Compare1 (thn (ha pins s σ H _ I h) fun v s1 ⟨x, H1, I1, r1, q1⟩ => thn (hb pins s1 σ H1 _ I1 q1) fun u s2 ⟨y, H2, I2, r2, q2⟩ =>
    thn (ho pins s2 σ H2 x y v u _ I2 r1 r2 q2) fun c s3 ⟨z, H3, I3, r3, q3⟩ => ?_) hm
  cases z <;> first | exact q3.elim | (cases r3; exact wpAny_truthy_bool ⟨H3, I3, q3⟩)
theorem qc {op : CmpOp} {r : R2} {a b : Expr} {ta tb : TE} {pos : Pos} (ho : OpR X (compareOp op) r) (ha : PE X a ta) (hb : PE X b tb) (hm : behindInMarks op b = false := by first | exact nomark _ | rfl) : PE X (.Compare a [op] [b] pos) (tOp r ta tb) := pe_cmpR ho ha hb hm
def mChain (r r' : R2) (ta tb tc : TE) : TE := fun σ H Q => ta σ H fun x H1 => tb σ H1 fun y H2 => r x y H2 fun z H3 => match z with
  | .bl k => Sel k (tc σ H3 fun w' H4 => r' y w' H4 Q) (Q (.bl false) H3)
  | _ => False
theorem qtch {op op' : CmpOp} {r r' : R2} {a b c : Expr} {ta tb tc : TE} {pos : Pos} (ho : OpR X (compareOp op) r) (ho' : OpR X (compareOp op') r') (ha : PE X a ta) (hb : PE X b tb) (hc : PE X c tc)
    (hm : lastMarks [op, op'] [b, c] = false := by with_unfolding_all rfl) : PT X (.Compare a [op, op'] [b, c] pos) (mTest (mChain r r' ta tb tc)) := by
  intro pins s σ H Q I h
  refine isTrue_chain (thn (ha pins s σ H _ I h) fun v s1 ⟨x, H1, I1, r1, q1⟩ => test_link (thn (hb pins s1 σ H1 _ I1 q1) fun u s2 ⟨y, H2, I2, r2, q2⟩ =>
    thn (ho pins s2 σ H2 x y v u _ I2 r1 r2 q2) fun d s3 ⟨z, H3, I3, r3, q3⟩ => ?_)) hm
  cases z <;> first | exact q3.elim | skip
  rename_i k
  cases r3
  refine wpAny_truthy_bool ?_
  have q3 := sel_ite q3
  cases k with
  | false => exact ite_ff ⟨H3, I3, q3⟩
  | true =>
    refine ite_tt (test_last (thn (hc pins s3 σ H3 _ I3 q3) fun w' s4 ⟨z', H4, I4, r4, q4⟩ => thn (ho' pins s4 σ H4 y z' u w' _ I4 r2 r4 q4) fun d' s5 ⟨z2, H5, I5, r5, q5⟩ => ?_))
    cases z2 <;> first | exact q5.elim | (cases r5; exact wpAny_truthy_bool ⟨H5, I5, q5⟩)
def mTru (K : PySem.W.Frag) (t : TE) : TT := fun σ H Q => t σ H fun x H' => match x with
  | .bl k => Q k H'
  | .non => Q false H'
  | .int i => Q (i != 0) H'
  | x => ∃ k, TruV K x H' k ∧ Q k H'
theorem qtb {e : Expr} {t : TE} (h : PE X e t) (he : ∀ whole, isTrue e X.env whole = (do let v ← whole; standAt e.pos; holding [v] (truthy v)) := by intro _; rfl) : PT X e (mTru X.K t) := by
  intro pins s σ H Q I q
  refine isTrue_plain (thn (h pins s σ H _ I q) fun v s1 ⟨x, H1, I1, r1, q1⟩ => tru_ok pins s1 σ H1 x v Q I1 r1 ?_) (he _)
  cases x <;> first | exact ⟨_, rfl, q1⟩ | exact q1
def mAnd (t u : TT) : TT := fun σ H Q => t σ H fun c H1 => Sel c (u σ H1 Q) (Q false H1)
def mOr (t u : TT) : TT := fun σ H Q => t σ H fun c H1 => Sel c (Q true H1) (u σ H1 Q)
theorem PW.imp {e : Expr} {t t' : TT} (h : PW X e t) (i : ∀ σ H Q, t' σ H Q → t σ H Q) : PW X e t' := fun whole pins s σ H Q I q => h whole pins s σ H Q I (i _ _ _ q)
variable {a b c : Expr} {ta tb : TE} {tA tB' : TT} {rest : List Expr} {pos : Pos}
theorem PT.mono {e : Expr} {t : TT} (h : PT X e t) {pins : List (Addr × Obj)} {s : Shared} {σ : St} {H : Hp} {Q Q' : Bool → Hp → Prop} (I : Inv X pins σ H s) (q : t σ H Q) (i : ∀ b H, Q b H → Q' b H) : wpAny (model X.prog X.w) X.A (isTrue e X.env (eval e X.env)) (TP X pins σ Q') X.xe s :=
  thn (h pins s σ H Q I q) fun b s' ⟨H', I', q'⟩ => ⟨H', I', i _ _ q'⟩
theorem qw_and1 (ha : PT X a tA) : PW X (.BoolOp .And [a] pos) tA := pw_and1 ha
theorem qw_or1 (ha : PT X a tA) : PW X (.BoolOp .Or [a] pos) tA := pw_or1 ha
theorem qw_and (ha : PT X a tA) (hb : PW X (.BoolOp .And (b :: rest) pos) tB') : PW X (.BoolOp .And (a :: b :: rest) pos) (mAnd tA tB') := by
  intro wh pins s σ H Q I h
  refine isTrue_and (thn (ha pins s σ H _ I h) fun c s1 ⟨H1, I1, q1⟩ => ?_)
  have q1 := sel_ite q1
  cases c with
  | true => exact hb wh pins s1 σ H1 Q I1 q1
  | false => exact ⟨H1, I1, q1⟩
theorem qw_or (ha : PT X a tA) (hb : PW X (.BoolOp .Or (b :: rest) pos) tB') : PW X (.BoolOp .Or (a :: b :: rest) pos) (mOr tA tB') := by
  intro wh pins s σ H Q I h
  refine isTrue_or (thn (ha pins s σ H _ I h) fun c s1 ⟨H1, I1, q1⟩ => ?_)
  have q1 := sel_ite q1
  cases c with
  | true => exact ⟨H1, I1, q1⟩
  | false => exact hb wh pins s1 σ H1 Q I1 q1
def mOrV (ta tb : TE) : TE := fun σ H Q => ta σ H fun x H1 => match x with | .bl c => Sel c (Q (.bl true) H1) (tb σ H1 Q) | _ => False
theorem qor (ha : PE X a ta) (hb : PE X (.BoolOp .Or (b :: rest) pos) tb) : PE X (.BoolOp .Or (a :: b :: rest) pos) (mOrV ta tb) := by
  intro pins s σ H Q I h
  refine BoolOp_or (thn (ha pins s σ H _ I h) fun v s1 ⟨x, H1, I1, r1, q1⟩ => ?_)
  cases x <;> first | exact q1.elim | skip
  rename_i c
  cases r1
  refine wpAny_truthy_bool ?_
  have q1 := sel_ite q1
  cases c with
  | false => exact hb pins s1 σ H1 Q I1 q1
  | true => exact ⟨.bl true, H1, I1, rfl, q1⟩
def mIfS (c : TT) (t u : TS) : TS := fun D σ H => c σ H fun b H1 => Sel b (t D σ H1) (u D σ H1)
theorem qif {c : Expr} {l m : List Stmt} {tc : TT} {t u : TS} (hc : PT X c tc) (ha : PSs X l t) (hb : PSs X m u) : PS X (.If c l m pos) (mIfS tc t u) := by
  intro pins s σ H D I h
  refine wpAny_If (thn (hc pins s σ H _ I h) fun d s1 ⟨H1, I1, q1⟩ => ?_)
  have q1 := sel_ite q1
  cases d with
  | true => exact ha pins s1 σ H1 D I1 q1
  | false => exact hb pins s1 σ H1 D I1 q1
theorem qlen : CallR X (.builtin "len") (fun xs H Q => match xs with
    | [.str y] => y.length ≤ sizeLine ∧ Q (.int y.length) H
    | [.ref p] => (∃ xs, SqL X.K H p xs ∧ Q (.int xs.length) H) ∨ (∃ xs, SqT X.K H p xs ∧ Q (.int xs.length) H) ∨ ∃ kvs, H p = some (.dK kvs) ∧ Q (.int kvs.length) H
    | _ => False) := by
  intro pins s σ H xs us Q I r h
  split at h
  · rename_i y
    exact call_len pins s σ H _ us Q I r ⟨_, _, rfl, ⟨h.1, rfl⟩, h.2⟩
  · rename_i p
    rcases h with ⟨ys, h1, h2⟩ | ⟨ys, h1, h2⟩ | ⟨kvs, h1, h2⟩
    · exact call_len pins s σ H _ us Q I r ⟨_, _, rfl, .inl ⟨ys, h1, rfl⟩, h2⟩
    · exact call_len pins s σ H _ us Q I r ⟨_, _, rfl, .inr ⟨ys, h1, rfl⟩, h2⟩
    · exact call_lenD pins s σ H _ us Q I r ⟨p, kvs, rfl, h1, h2⟩
  · exact h.elim
end
end L2
namespace L2
open PySem PySem.Spec PyProof.Rows
section
variable {X : Cx} {tg : Expr}
def mNeg : V → Hp → VK → Prop := fun x H Q => match x with | .int i => Q (.int (-i)) H | _ => False
theorem uNeg : UnR X (unaryOp .USub) mNeg := fun pins s σ H x v Q I rx q => un_neg pins s σ H x v Q I rx (by
  unfold mNeg at q
  split at q
  · exact ⟨_, rfl, q⟩
  · exact q.elim)
def kLen (K : PySem.W.Frag) : List V → Hp → VK → Prop := fun xs H Q => match xs with
    | [.str y] => y.length ≤ sizeLine ∧ Q (.int y.length) H
    | [.ref p] => (∃ xs, SqL K H p xs ∧ Q (.int xs.length) H) ∨ (∃ xs, SqT K H p xs ∧ Q (.int xs.length) H) ∨ ∃ kvs, H p = some (.dK kvs) ∧ Q (.int kvs.length) H
    | _ => False
theorem cLen : CallR X (.builtin "len") (kLen X.K) := qlen
def kIsi : List V → Hp → VK → Prop := fun xs H Q => match xs with
  | [x, .ty T] => T ∈ ["int", "bool", "str", "tuple", "list", "dict"] ∧ ∃ t, tyN H x = some t ∧ Q (.bl (isI t T)) H
  | _ => False
theorem cIsi : CallR X (.builtin "isinstance") kIsi := fun pins s σ H xs us Q I r h => by
  unfold kIsi at h
  split at h
  · obtain ⟨h1, t, h2, h3⟩ := h
    exact call_isi pins s σ H _ us Q I r ⟨_, _, t, rfl, h1, h2, h3⟩
  · exact h.elim
def kStr : List V → Hp → VK → Prop := fun xs H Q => match xs with
  | [.int i] => i.natAbs.log2 < 1920 ∧ Q (.str (toString i)) H
  | _ => False
theorem cStr : CallR X (.type "str") kStr := fun pins s σ H xs us Q I r h => by
  unfold kStr at h
  split at h
  · exact call_str_int pins s σ H _ us Q I r ⟨_, rfl, h.1, h.2⟩
  · exact h.elim
end
end L2
namespace L2
open PySem PySem.Spec PyProof.Rows
structure Items (J : It) (n : Nat) (it : Nat → V) (Pv : Hp → Prop) : Prop where
  go : ∀ i H, i < n → Pv H → J.go i H
  yld : ∀ i H x H', i < n → Pv H → J.yld i H x H' → H' = H ∧ x = it i
  stop : ∀ H, Pv H → J.stop n H
theorem Items.list {K : PySem.W.Frag} {a : Addr} {xs : List V} (d : V) : Items (Itl K a) xs.length (fun i => xs.getD i d) (fun H => SqL K H a xs) where
  go := fun i H hi h => ⟨xs, xs[i], h, by simp [hi]⟩
  yld := fun i H x H' hi h y => ⟨y.1, by have := y.2 xs h; rw [List.getD_eq_getElem?_getD, this]; rfl⟩
  stop := fun H h => ⟨xs, h, Nat.le_refl _⟩
theorem Items.tuple {K : PySem.W.Frag} {a : Addr} {xs : List V} (d : V) : Items (Itt K a) xs.length (fun i => xs.getD i d) (fun H => SqT K H a xs) where
  go := fun i H hi h => ⟨xs, xs[i], h, by simp [hi]⟩
  yld := fun i H x H' hi h y => ⟨y.1, by have := y.2 xs h; rw [List.getD_eq_getElem?_getD, this]; rfl⟩
  stop := fun H h => ⟨xs, h, Nat.le_refl _⟩
theorem Items.range {lo : Int} {n : Nat} : Items (Itr lo n) n (fun i => .int (lo + i)) (fun _ => True) where
  go := fun i H hi _ => hi
  yld := fun i H x H' hi _ y => y
  stop := fun H _ => Nat.le_refl _
def CWd (n : Nat) (Pv : Nat → List V → Hp → Prop) : Nat → Nat → List V → Hp → Prop := fun i m ys H => i ≤ n ∧ m = n - i ∧ Pv i ys H
theorem CWd.next {n i : Nat} {Pv : Nat → List V → Hp → Prop} {ys : List V} {H : Hp} (hi : i < n) (h : Pv (i + 1) ys H) : ∃ m', m' < n - i ∧ CWd n Pv (i + 1) m' ys H := ⟨n - (i + 1), by omega, hi, rfl, h⟩
theorem comp_by {J : It} {n : Nat} {it : Nat → V} {Pk : Hp → Prop} {σ : St} {is : List Nat} {tc : TT} {te : TE} {Q : VK} {H1 : Hp} {D : Addr} (T : Items J n it Pk) (Pv : Nat → List V → Hp → Prop)
    (hk : ∀ i ys H, i ≤ n → Pv i ys H → Pk H) (h0 : Pv 0 [] (upd H1 D (.lst [])))
    (hs : ∀ i ys H2, i < n → Pv i ys H2 → tc (some (it i) :: capSt σ is) H2 fun b H4 => if b = true then
      te (some (it i) :: capSt σ is) H4 fun y H5 => H5 D = some (.lst ys) ∧ ys.length < sizeLine ∧ ∃ m', m' < n - i ∧ CWd n Pv (i + 1) m' (ys ++ [y]) (upd H5 D (.lst (ys ++ [y])))
      else ∃ m', m' < n - i ∧ CWd n Pv (i + 1) m' ys H4)
    (hd : ∀ ys H, Pv n ys H → Q (.ref D) H) : CompW is tc te σ D J H1 Q := by
  refine ⟨CWd n Pv, ⟨n, Nat.zero_le _, rfl, h0⟩, ?_⟩
  rintro i m ys H2 ⟨hi, rfl, p⟩
  by_cases hlt : i < n
  · refine .inr ⟨T.go i H2 hlt (hk i ys H2 hi p), fun x H3 y => ?_⟩
    obtain ⟨rfl, rfl⟩ := T.yld i H2 x H3 hlt (hk i ys H2 hi p) y
    exact hs i ys _ hlt p
  · have e : i = n := by omega
    subst e
    exact .inl ⟨T.stop H2 (hk _ ys H2 hi p), hd ys H2 p⟩
theorem Same.upd {H : Hp} {p : Addr} {o : HO} (h : H p = none) : Same H (upd H p o) := fun b u e => by rw [upd_ne (ne_of_none e h)]; exact e
theorem Same.put {H H' : Hp} {p : Addr} {o : HO} (s : Same H H') (h : H p = none) : Same H (L2.upd H' p o) := fun b u e => by rw [upd_ne (ne_of_none e h)]; exact s b u e
theorem Same.tyN {H H' : Hp} (s : Same H H') {v : V} {t : String} (h : L2.tyN H v = some t) : L2.tyN H' v = some t := by
  cases v with
  | ref a =>
    unfold L2.tyN at h ⊢
    dsimp only at h ⊢
    split at h <;> first | (rename_i e; rw [s _ _ e]; exact h) | cases h
  | _ => exact h
theorem getD_int (ns : List Int) (i : Nat) : (ns.map V.int).getD i (.int 0) = .int (ns.getD i 0) := by
  rw [List.getD_eq_getElem?_getD, List.getD_eq_getElem?_getD, List.getElem?_map]
  cases ns[i]? <;> rfl
theorem atI_lt {xs : List V} {i : Int} (h0 : 0 ≤ i) (h1 : i < xs.length) : atI xs i = some (xs.getD i.toNat .non) := by
  unfold atI ixN
  rw [if_pos h0, if_pos h1]
  show xs[i.toNat]? = _
  rw [List.getD_eq_getElem?_getD]
  have : i.toNat < xs.length := by omega
  rw [List.getElem?_eq_getElem this]; rfl
end L2
namespace L2
open PySem PySem.Spec PyProof.Rows
def notStar : Expr → Bool
  | .Starred _ _ => false
  | _ => true
theorem starEach_plain {e : Expr} (h : notStar e = true) (rest : List Expr) (env : Env) : starEach (e :: rest) env = (false, eval e env) :: starEach rest env := by
  cases e <;> first | rfl | cases h
def noStars : List Expr → Bool
  | [] => true
  | e :: r => notStar e && noStars r
theorem noStars_any : ∀ {es : List Expr} {env : Env} {pos : Pos}, noStars es = true → (backTo pos (starEach es env)).any (·.1) = false
  | [], _, _, _ => rfl
  | e :: r, env, pos, h => by
    have h : (notStar e && noStars r) = true := h
    rw [Bool.and_eq_true] at h
    rw [starEach_plain h.1]
    show (false || (backTo pos (starEach r env)).any (·.1)) = false
    rw [noStars_any h.2]; rfl
section
variable {X : Cx} {e : Expr} {es : List Expr} {te : TE} {t : TA} {pos : Pos}
theorem qa_cons (ha : PE X e te) (hr : PA X es t) (hs : notStar e = true := by rfl) : PA X (e :: es) (tCons te t) := pa_cons ha hr (starEach_plain hs es X.env)
variable {x : Str} {p apos cpos : Pos} {id T : String} {r : List V → Hp → VK → Prop}
theorem q_callB (hc : CallR X (.builtin id) r) (hg : Gl X x) (hm : X.mg x = none) (hv : bootBuiltins x = some (.builtin id)) (ha : PA X (e :: es) t) (hn : x ≠ "__name__" := by decide) (hdb : (x == ("__debug__" : Str)) = false := by decide)
    (hs : noStars (e :: es) = true := by rfl) : PE X (.Call (.Name x p) (e :: es) [] pos) (tCB r t) :=
  have h : (notStar e && noStars es) = true := hs
  pe_callB hc hg hm hv ha hn hdb (starEach_plain (Bool.and_eq_true_iff.mp h).1 es X.env) (noStars_any (Bool.and_eq_true_iff.mp h).2)
theorem q_callTy (hc : CallR X (.type T) r) (hg : Gl X x) (hm : X.mg x = none) (hv : bootBuiltins x = some (.type T)) (ha : PA X (e :: es) t) (hn : x ≠ "__name__" := by decide) (hdb : (x == ("__debug__" : Str)) = false := by decide)
    (hs : noStars (e :: es) = true := by rfl) : PE X (.Call (.Name x p) (e :: es) [] pos) (tCB r t) :=
  have h : (notStar e && noStars es) = true := hs
  pe_callTy hc hg hm hv ha hn hdb (starEach_plain (Bool.and_eq_true_iff.mp h).1 es X.env) (noStars_any (Bool.and_eq_true_iff.mp h).2)
variable {CX : CXT} {k : Nat} {f C : Addr} {fd : FuncData} {ps : List Str} {sp : Sp} {dvs : List V} {ds : List Value} {E : XK} {m : Str} {o : Expr} {ta : TE}
theorem all_noStars : ∀ {es : List Expr} {env : Env} {pos : Pos}, noStars es = true → (backTo pos (starEach es env)).all (fun x => !x.1) = true
  | [], _, _, _ => rfl
  | e :: r, env, pos, h => by
    have h : (notStar e && noStars r) = true := h
    rw [Bool.and_eq_true] at h
    rw [starEach_plain h.1]
    show (true && (backTo pos (starEach r env)).all (fun x => !x.1)) = true
    rw [all_noStars h.2]; rfl
variable {to : TE} {name : Str} {rm : V → List V → Hp → VK → Prop}
theorem q_bm (pa : PlainAttrs T) (slot : Slot T name id) (hty : typeOf (.builtin id) = pure (.type "method_descriptor")) (hm : MtR X id rm) (ho : PE X o to) (ha : PA X (e :: es) t)
    (hbase : attributeBase o name X.env (eval o X.env) = eval o X.env := by rfl) (hfew : decide ((e :: es).length < 30) = true := by rfl)
    (hline : (apos.endLine == cpos.line) = true := by rfl) (hs : noStars (e :: es) = true := by rfl) : PE X (.Call (.Attribute o name apos) (e :: es) [] cpos) (tBM X.K T rm to t) :=
  have h : (notStar e && noStars es) = true := hs
  pe_bm pa slot hty hm ho ha hbase (by rw [all_noStars hs]; exact hfew) hline (starEach_plain (Bool.and_eq_true_iff.mp h).1 es X.env) (noStars_any (Bool.and_eq_true_iff.mp h).2)
end
end L2
namespace L2
open PySem PySem.Spec PyProof.Rows
structure QE (X : Cx) (e : Expr) (t : TE) : Prop where
  out : PE X e t
structure QT (X : Cx) (e : Expr) (t : TT) : Prop where
  out : PT X e t
structure QW (X : Cx) (e : Expr) (t : TT) : Prop where
  out : PW X e t
structure QA (X : Cx) (e : List Expr) (t : TA) : Prop where
  out : PA X e t
structure QS (X : Cx) (e : Stmt) (t : TS) : Prop where
  out : PS X e t
structure QSs (X : Cx) (e : List Stmt) (t : TS) : Prop where
  out : PSs X e t
structure QI (X : Cx) (tg iter : Expr) (t : TI) : Prop where
  out : PI X tg iter t
structure QG (X : Cx) (tg : Expr) (t : TG) : Prop where
  out : PG X tg t
structure QO (X : Cx) (e : Option Expr) (t : TO) : Prop where
  out : PO X e t
structure QIfs (X : Cx) (e : List Expr) (t : TT) : Prop where
  out : PIfs X e t
structure QP (X : Cx) (pos : Pos) (ks : List (Option Expr)) (vs : List Expr) (t : List (TE × TE)) : Prop where
  out : PPs X pos ks vs t
section
variable {X : Cx} {a b c e o : Expr} {es rest : List Expr} {ta tb tc te to tv : TE} {tA tB' : TT} {t : TA} {pos apos cpos p : Pos} {x y : Str}
theorem x_var (i : Nat) (hN : X.N[i]? = some x := by rfl) (hv : Vis X.env.scope x := by first | exact Or.inl rfl | exact Or.inr (Or.inl rfl) | exact Or.inr (Or.inr rfl)) (hd : (x == ("__debug__" : Str)) = false := by decide)
    (hcd : (x == ("__classdict__" : Str)) = false := by decide) : QE X (.Name x pos) (mVar i) := ⟨qv i hN hv hd hcd⟩
theorem x_gi {i : Int} (hm : ∃ t, X.mg x = some (.int i t)) (hg : Gl X x := by rfl) (hd : (x == ("__debug__" : Str)) = false := by decide) : QE X (.Name x pos) (tC (.int i)) := ⟨qgi hm hg hd⟩
theorem x_gs {z : Str} (hm : ∃ t, X.mg x = some (.str z t)) (hg : Gl X x := by rfl) (hd : (x == ("__debug__" : Str)) = false := by decide) : QE X (.Name x pos) (tC (.str z)) := ⟨qgs hm hg hd⟩
theorem x_ty {T : String} (hm : X.mg x = none) (hv : bootBuiltins x = some (.type T)) (hg : Gl X x := by rfl) (hn : x ≠ "__name__" := by decide) (hd : (x == ("__debug__" : Str)) = false := by decide) : QE X (.Name x pos) (tC (.ty T)) := ⟨pe_bltn hg hm hv rfl hn hd⟩
theorem x_int {i : Int} {j} : QE X (.Constant (.int i) j pos) (tC (.int i)) := ⟨pe_int⟩
theorem x_bl {b : Bool} {j} : QE X (.Constant (.bool b) j pos) (tC (.bl b)) := ⟨pe_bl⟩
theorem x_non {j} : QE X (.Constant .none j pos) (tC .non) := ⟨pe_non⟩
theorem x_str {z : Str} {j} : QE X (.Constant (.str z) j pos) (tC (.str z)) := ⟨pe_str⟩
theorem x_neg (ha : QE X a ta) : QE X (.UnaryOp .USub a pos) (tUn mNeg ta) := ⟨pe_un uNeg ha.out⟩
theorem x_op {op : Operator} {r : R2} (ho : OpR X (binaryOp op) r) (ha : QE X a ta) (hb : QE X b tb) : QE X (.BinOp a op b pos) (tOp r ta tb) := ⟨pe_op ho ha.out hb.out⟩
theorem x_cmp {op : CmpOp} {r : R2} (ho : OpR X (compareOp op) r) (ha : QE X a ta) (hb : QE X b tb) (hm : behindInMarks op b = false := by first | exact nomark _ | rfl) : QE X (.Compare a [op] [b] pos) (tOp r ta tb) := ⟨qc ho ha.out hb.out hm⟩
theorem x_one {op} (h : QE X a ta) : QE X (.BoolOp op [a] pos) ta := ⟨pe_one h.out⟩
theorem x_or (ha : QE X a ta) (hb : QE X (.BoolOp .Or (b :: rest) pos) tb) : QE X (.BoolOp .Or (a :: b :: rest) pos) (mOrV ta tb) := ⟨qor ha.out hb.out⟩
theorem x_nil : QA X [] tNil := ⟨pa_nil⟩
theorem x_cons (ha : QE X e te) (hr : QA X es t) (hs : notStar e = true := by rfl) : QA X (e :: es) (tCons te t) := ⟨qa_cons ha.out hr.out hs⟩
theorem x_lst (h : QA X es t) : QE X (.List es pos) (tLst t) := ⟨pe_lst h.out⟩
theorem x_tup {x1} (h : QA X es t) : QE X (.Tuple es x1 pos) (tTup t) := ⟨pe_tup h.out⟩
theorem x_pnil : QP X pos [] [] [] := ⟨pps_nil⟩
theorem x_pcons {k v : Expr} {ks : List (Option Expr)} {vs : List Expr} {tk : TE} {trs : List (TE × TE)} (hk : QE X k tk) (hv : QE X v tv) (hr : QP X pos ks vs trs) : QP X pos (some k :: ks) (v :: vs) ((tk, tv) :: trs) := ⟨pps_cons hk.out hv.out hr.out⟩
theorem x_disp {keys : List (Option Expr)} {values : List Expr} {trs : List (TE × TE)} (h : QP X pos keys values trs) (hall : keys.all (·.isSome) = true := by rfl) (hl : keys.length = values.length := by rfl) (h0 : (keys.length != 0) = true := by rfl)
    (h15 : keys.length ≤ 15 := by decide) : QE X (.Dict keys values pos) (tDisp trs) := ⟨pe_disp h.out hall hl (fun e => by rw [e] at h0; cases h0) h15⟩
theorem x_ix {r : R2} (hr : IxR X r) (ha : QE X a ta) (hb : QE X b tb) (hs : PlainIx b) : QE X (.Subscript a b pos) (tOp r ta tb) := ⟨pe_ix hr ha.out hb.out hs⟩
theorem x_onone : QO X none tNoPart := ⟨po_none⟩
theorem x_osome (h : QE X e te) : QO X (some e) (tPart te) := ⟨po_some h.out⟩
theorem x_slice {r : V → Option Int → Option Int → Hp → VK → Prop} {lo hi : Option Expr} {tl th : TO} {p2 : Pos} (hr : SlR X r) (he : QE X e te) (hl : QO X lo tl) (hu : QO X hi th) : QE X (.Subscript e (.Slice lo hi none p2) pos) (tSl r te tl th) := ⟨pe_slice hr he.out hl.out hu.out⟩
variable {id T : String} {r : List V → Hp → VK → Prop}
theorem x_callB (hc : CallR X (.builtin id) r) (hm : X.mg x = none) (hv : bootBuiltins x = some (.builtin id)) (ha : QA X (e :: es) t) (hg : Gl X x := by rfl) (hn : x ≠ "__name__" := by decide) (hdb : (x == ("__debug__" : Str)) = false := by decide)
    (hs : noStars (e :: es) = true := by rfl) : QE X (.Call (.Name x p) (e :: es) [] pos) (tCB r t) := ⟨q_callB hc hg hm hv ha.out hn hdb hs⟩
theorem x_callTy (hc : CallR X (.type T) r) (hm : X.mg x = none) (hv : bootBuiltins x = some (.type T)) (ha : QA X (e :: es) t) (hg : Gl X x := by rfl) (hn : x ≠ "__name__" := by decide) (hdb : (x == ("__debug__" : Str)) = false := by decide)
    (hs : noStars (e :: es) = true := by rfl) : QE X (.Call (.Name x p) (e :: es) [] pos) (tCB r t) := ⟨q_callTy hc hg hm hv ha.out hn hdb hs⟩
variable {CX : CXT} {k : Nat} {f C : Addr} {fd : FuncData} {ps : List Str} {sp : Sp} {dvs : List V} {ds : List Value} {E : XK} {m : Str}
variable {name : Str} {rm : V → List V → Hp → VK → Prop}
theorem x_bm (pa : PlainAttrs T) (slot : Slot T name id) (hty : typeOf (.builtin id) = pure (.type "method_descriptor")) (hm : MtR X id rm) (ho : QE X o to) (ha : QA X (e :: es) t)
    (hbase : attributeBase o name X.env (eval o X.env) = eval o X.env := by rfl) (hfew : decide ((e :: es).length < 30) = true := by rfl)
    (hline : (apos.endLine == cpos.line) = true := by rfl) (hs : noStars (e :: es) = true := by rfl) : QE X (.Call (.Attribute o name apos) (e :: es) [] cpos) (tBM X.K T rm to t) := ⟨q_bm pa slot hty hm ho.out ha.out hbase hfew hline hs⟩
theorem x_tcmp {op : CmpOp} {r : R2} (ho : OpR X (compareOp op) r) (ha : QE X a ta) (hb : QE X b tb) (hm : behindInMarks op b = false := by first | exact nomark _ | rfl) : QT X (.Compare a [op] [b] pos) (mTest (tOp r ta tb)) := ⟨qtc ho ha.out hb.out hm⟩
theorem x_tchain {op op' : CmpOp} {r r' : R2} (ho : OpR X (compareOp op) r) (ho' : OpR X (compareOp op') r') (ha : QE X a ta) (hb : QE X b tb) (hc : QE X c tc) (hm : lastMarks [op, op'] [b, c] = false := by with_unfolding_all rfl) :
    QT X (.Compare a [op, op'] [b, c] pos) (mTest (mChain r r' ta tb tc)) := ⟨qtch ho ho' ha.out hb.out hc.out hm⟩
theorem x_test (h : QE X e te) (he : ∀ whole, isTrue e X.env whole = (do let v ← whole; standAt e.pos; holding [v] (truthy v)) := by intro _; rfl) : QT X e (mTru X.K te) := ⟨qtb h.out he⟩
theorem x_tnot (ha : QT X a tA) : QT X (.UnaryOp .Not a pos) (tNot tA) := ⟨pt_not ha.out⟩
theorem x_w (h : QW X e tA) : QT X e tA := ⟨h.out.pt⟩
theorem x_wand1 (ha : QT X a tA) : QW X (.BoolOp .And [a] pos) tA := ⟨qw_and1 ha.out⟩
theorem x_wor1 (ha : QT X a tA) : QW X (.BoolOp .Or [a] pos) tA := ⟨qw_or1 ha.out⟩
theorem x_wand (ha : QT X a tA) (hb : QW X (.BoolOp .And (b :: rest) pos) tB') : QW X (.BoolOp .And (a :: b :: rest) pos) (mAnd tA tB') := ⟨qw_and ha.out hb.out⟩
theorem x_wor (ha : QT X a tA) (hb : QW X (.BoolOp .Or (b :: rest) pos) tB') : QW X (.BoolOp .Or (a :: b :: rest) pos) (mOr tA tB') := ⟨qw_or ha.out hb.out⟩
variable {tg iter elt : Expr} {wi : TI} {ifs : List Expr} {scope : Scope} {ys : List Str} {is : List Nat} {px py spos : Pos}
theorem x_range1 (hm : X.mg "range" = none) (ha : QA X [a] t) (hg : Gl X "range" := by rfl) (hs : notStar a = true := by rfl) : QI X tg (.Call (.Name "range" p) [a] [] pos) (iRng1 t) := ⟨pi_range1 hg hm ha.out (starEach_plain hs [] X.env)⟩
theorem x_noif : QIfs X [] (fun _ H Q => Q true H) := ⟨rfl⟩
theorem x_oneif (h : QT X c tA) : QIfs X [c] tA := ⟨h.out⟩
theorem x_comp {tcn : TT} (S : CompScope scope x ys) (hcap : Caps X scope ys is) (hi : QI X (.Name x px) iter wi)
    (hif : ∀ C s H fp, QIfs (cxComp X scope C (x :: ys) s H fp) ifs tcn) (he : ∀ C s H fp, QE (cxComp X scope C (x :: ys) s H fp) elt te) (hc : X.calm = true := by rfl)
    (hs : ∀ x, foldedSetIterable iter X.env x = pure x := by intro _; rfl) : QE X (.ListComp elt [⟨.Name x px, iter, ifs, 0⟩] scope pos) (tComp is wi tcn te) := ⟨pe_comp hc S hcap hi.out (fun C s H fp => (hif C s H fp).out) (fun C s H fp => (he C s H fp).out) hs⟩
variable {st : Stmt} {sts : List Stmt} {tS uS : TS} {i j : Nat}
theorem x_snil : QSs X [] tNext := ⟨pss_nil⟩
theorem x_sone (h : QS X st tS) : QSs X [st] tS := ⟨pss_one h.out⟩
theorem x_scons (h1 : QS X st tS) (h2 : QSs X sts uS) : QSs X (st :: sts) (tSeq tS uS) := ⟨pss_cons h1.out h2.out⟩
theorem x_ret (h : QE X e te) : QS X (.Return (some e) pos) (tRet te) := ⟨ps_ret h.out⟩
theorem x_ifS {l m : List Stmt} (hc : QT X c tA) (ha : QSs X l tS) (hb : QSs X m uS) : QS X (.If c l m pos) (mIfS tA tS uS) := ⟨qif hc.out ha.out hb.out⟩
theorem x_set (i : Nat) (hN : X.N.Nodup) (he : QE X e te) (hi : X.N[i]? = some x := by rfl) (hx : Loc X.env.scope x := by first | exact .inl rfl | exact .inr rfl)
    (hs : swapsWith e (some (.Name x p)) pos.line X.env = pure false := by rfl) (hf : X.fn x = true ∨ X.env.scope.names.lookup x = some .local := by first | exact .inl rfl | exact .inr rfl) : QS X (.Assign [.Name x p] e pos) (tAsg te (gName i)) := ⟨ps_set hN hi hx he.out hs hf⟩
theorem x_setComp (j : Nat) {tcn : TT} (hN : X.N.Nodup) (S : CompScope scope x ys) (hcap : Caps X scope ys is) (hi : QI X (.Name x px) iter wi)
    (hif : ∀ C s H fp, QIfs (cxComp X scope C (x :: ys) s H fp) ifs tcn) (he : ∀ C s H fp, QE (cxComp X scope C (x :: ys) s H fp) elt te) (hc : X.calm = true := by rfl)
    (hj : X.N[j]? = some y := by rfl) (hy : Loc X.env.scope y := by first | exact .inl rfl | exact .inr rfl)
    (hsw : swapsWith (.ListComp elt [⟨.Name x px, iter, ifs, 0⟩] scope pos) (some (.Name y py)) spos.line X.env = pure true := by rfl) (hf : X.fn y = true ∨ X.env.scope.names.lookup y = some .local := by first | exact .inl rfl | exact .inr rfl)
    (hs : ∀ x, foldedSetIterable iter X.env x = pure x := by intro _; rfl) : QS X (.Assign [.Name y py] (.ListComp elt [⟨.Name x px, iter, ifs, 0⟩] scope pos) spos) (tAsg (tComp is wi tcn te) (gName j)) :=
  ⟨ps_setComp hN hj hy hc S hcap hi.out (fun C s H fp => (hif C s H fp).out) (fun C s H fp => (he C s H fp).out) hsw hf hs⟩
theorem x_drop (h : QE X e te) (hs : swapsWith e none pos.line X.env = pure false := by rfl) : QS X (.Expr e pos) (tDrop te) := ⟨ps_expr h.out hs⟩
theorem x_for (i : Nat) (hN : X.N.Nodup) {body : List Stmt} (hi : QI X (.Name x px) iter wi) (hb : QSs X body tS) (hp : PassesOwn (model X.prog X.w) X.A X.env X.xe) (hc : X.calm = true := by rfl)
    (hj : X.N[i]? = some x := by rfl) (hx : Loc X.env.scope x := by first | exact .inl rfl | exact .inr rfl) (hf : X.fn x = true ∨ X.env.scope.names.lookup x = some .local := by first | exact .inl rfl | exact .inr rfl)
    (hs : ∀ x, foldedSetIterable iter X.env x = pure x := by intro _; rfl) : QS X (.For (.Name x px) iter body [] pos) (tFor wi (gName i) tS) := ⟨ps_for hp hc hi.out (pg_name hN hj hx hf) hb.out hs⟩
theorem x_while {body : List Stmt} (hc : QT X c tA) (hb : QSs X body tS) (hp : PassesOwn (model X.prog X.w) X.A X.env X.xe) : QS X (.While c body [] pos) (tWhile tA tS) := ⟨ps_while hp hc.out hb.out⟩
end
end L2
namespace L2
open PySem PySem.Spec PyProof.Rows
abbrev veM : List Value := [.type "ValueError", .type "Exception", .type "BaseException", .type "object"]
def subIn (K : PySem.W.Frag) (C D : Addr) : Option Bool := match K.lookup C with
  | some ⟨_, _, .cls cd, _⟩ => some (cd.mro.contains (.ref D))
  | _ => none
def ExcOk (K : PySem.W.Frag) (C : Addr) : Prop := PySem.W.excIn K C veM "ValueError.__new__" = true
theorem exc_obj {K : PySem.W.Frag} {h : Heap} {C : Addr} (X : K.In h) (q : ExcOk K C) :
    ∃ bm N nm qn bs hdct sn sub ab col dd k0 k1 k2 k3 k5 mN, h.get? C = some (excClassObj nm qn C N bs bm hdct sn sub ab col dd k0 k1 k2 k3 k5 "ValueError.__new__") ∧ h.Ns N mN ∧ mN "__init__" = none ∧ OwnTail h veM bm ∧
      ∀ D, subIn K C D = some ((Value.ref C :: bm).contains (.ref D)) := by
  unfold ExcOk PySem.W.excIn at q
  split at q
  · rename_i dd cd sl ho
    split at q
    · rename_i C' bm k0 k1 k2 k3 n k5 hm hs
      simp only [Bool.and_eq_true, beq_iff_eq, Bool.not_eq_true'] at q
      obtain ⟨⟨⟨⟨⟨rfl, rfl⟩, hdel⟩, ht⟩, hok⟩, hni⟩ := q
      obtain ⟨nm, bs, mro, ns, qn, hd, sn, sub, ab, col, del⟩ := cd
      dsimp only at hm hdel hok hni
      subst hm hdel
      have hsl : sl = #[k0, k1, k2, k3, some (.builtin "ValueError.__new__"), k5] := by
        obtain ⟨l⟩ := sl
        simp only at hs
        rw [hs]
      subst hsl
      refine ⟨bm, ns, nm, qn, bs, hd, sn, sub, ab, col, dd, k0, k1, k2, k3, k5, _, X _ _ ho, .of_isNs (PySem.W.isNs_of_in X hok), PySem.W.nsMap_none_of_in X hok hni, PySem.W.tail_of_in X ht, fun D => ?_⟩
      unfold subIn
      rw [ho]
    · cases q
  · cases q
theorem excMatches_own {M : Model} {A : Around} {E : Value → Shared → Prop} {s : Shared} {K : PySem.W.Frag} {C D e : Addr} {oe : Obj} {Q : Bool → Shared → Prop} {b : Bool} (X : K.In s.heap) (hC : ExcOk K C) (hD : ExcOk K D) (he : s.heap.get? e = some oe) (hcls : oe.cls = .ref C)
    (hs : subIn K C D = some b) (hq : Q b s) : wpAny M A (excMatches (.ref e) (.ref D)) Q E s := by
  obtain ⟨bm, N, nm, qn, bs, hdct, sn, sub, ab, col, dd, k0, k1, k2, k3, k5, mN, oC, _, _, _, hsub⟩ := exc_obj X hC
  obtain ⟨bm', N', nm', qn', bs', hdct', sn', sub', ab', col', dd', k0', k1', k2', k3', k5', mN', oD, _, _, T', _⟩ := exc_obj X hD
  have hb : (Value.ref C :: bm).contains (.ref D) = b := Option.some.inj ((hsub D).symm.trans hs)
  have hbase : (Value.ref D :: bm').contains (.type "BaseException") = true := by
    rw [List.contains_cons, T'.hasType (X := "BaseException") (b := true) (by decide +kernel), Bool.or_true]
  have f := tc_notTuple
  obtain ⟨hp, g, d, t, os⟩ := s
  unfold excMatches
  repeat (first | (with_reducible refine wpAny_loadPart_at he ?_; rw [hcls]) | with_reducible refine wpAny_loadPart_at oD ?_ | (with_reducible refine wpAny_isSubtype_exc oC ?_; rw [hb]) | (with_reducible refine wpAny_isSubtype_exc oD ?_; rw [hbase]) | wp_step)
  all_goals first | exact hq | (cases b <;> first | exact hq | (repeat (first | exact hq | wp_step)))

structure Fly (P : Program) (w : World) (l : List Env) (H : Hp) (s : Shared) (cls fl : Value) (a : Addr) (H' : Hp) (s' : Shared) : Prop where
  os : s'.os = s.os
  bare : AllBare s'.gens
  un : Un (frs l) [] H H' s.heap s'.heap
  hok : HOk P w H' s'.heap
  new : s.heap.get? a = none
  free : H' a = none
  tr : ∃ oe vs a0 T oT ts, s'.heap.get? a = some oe ∧ oe.cls = cls ∧ oe.data = .fields vs ∧ vs[0]? = some a0 ∧ vs[1]? = some (.ref T) ∧ T ≠ a ∧ s'.heap.get? T = some oT ∧ oT.data = .fields ts ∧ ts[3]? = some fl ∧ s.heap.get? T = none ∧ H' T = none
def CX1 (P : Program) (w : World) : CXT := fun outer H s E e s' => ∃ a C H', e = .ref a ∧ Fly P w outer H s (.ref C) .none a H' s' ∧ E (.ref C) none H'

theorem obj_some {P : Program} {w : World} {H : Hp} {h : Heap} {a : Addr} {o : HO} (x : ObjOk P w H h a o) : ∃ u, h.get? a = some u := by
  cases o with
  | lst xs => obtain ⟨_, _, _, _, e⟩ := x; exact ⟨_, e⟩
  | tup xs => obtain ⟨_, _, _, p⟩ := x; obtain ⟨o, e, _⟩ := p; exact ⟨_, e⟩
  | dK kvs => obtain ⟨_, _, _, _, o, _, _, e, _⟩ := x; exact ⟨_, e⟩
  | dT kvs => obtain ⟨_, _, _, _, o, _, _, e, _⟩ := x; exact ⟨_, e⟩
  | set S n => obtain ⟨o, _, _, _, e, _⟩ := x; exact ⟨_, e⟩
  | ins C dx fs => obtain ⟨_, _, _, e, _⟩ := x; exact ⟨_, e⟩
  | own y => exact x
  | xd fs => obtain ⟨_, ⟨_, _, _, e, _⟩, _⟩ := x; exact ⟨_, e⟩
  | rng lo hi => obtain ⟨_, _, _, e⟩ := x; exact ⟨_, e⟩
  | frz ob u => obtain ⟨e, _⟩ := x; exact ⟨_, e⟩
  | tbl ps => exact ⟨_, (show h.get? a = some _ from x)⟩
  | met f y => exact ⟨_, (show h.get? a = some _ from x)⟩
  | ext φ => obtain ⟨_, e, _⟩ := x; exact e
section
variable {P : Program} {w : World} {l : List Env} {H H' : Hp} {s s' : Shared} {cls fl fl' : Value} {a : Addr} {base : Heap}
def flyB (h : Heap) (l : List Env) (a T : Addr) : Heap := PySem.W.hideAll h (a :: T :: frs l)
theorem Fly.frames (F : Fly P w l H s cls fl a H' s') (ff : s.heap.FunFrames base l) (frf : ∀ b ∈ frs l, H b = none) : s'.heap.FunFrames base l := by
  have all : ∀ (k : List Env), (∀ b ∈ frs k, b ∈ frs l) → s.heap.FunFrames base k → s'.heap.FunFrames base k := by
    intro k
    induction k with
    | nil => intro _ _; trivial
    | cons env r ih =>
      intro hs hl
      obtain ⟨hk, ⟨L, o, hf, hn, ho, hd⟩, hr⟩ := hl
      have hL : L ∈ frs l := hs L (by unfold frs; rw [List.filterMap_cons, hf]; exact List.mem_cons_self)
      obtain ⟨sl, e⟩ := F.un.slot L o ho (frf L hL) hL (by simp)
      exact ⟨hk, ⟨L, _, hf, hn, e, hd⟩, ih (fun b hb => hs b (by unfold frs; rw [List.filterMap_cons, hf]; exact List.mem_cons_of_mem _ hb)) hr⟩
  exact all l (fun _ hb => hb) ff
theorem funs_mono {h B B' : Heap} : ∀ {k : List Env}, h.FunFrames B k → (∀ b ∈ frs k, B'.get? b = none) → h.FunFrames B' k
  | [], _, _ => trivial
  | env :: r, ⟨hk, ⟨L, o, hf, hn, ho, hd⟩, hr⟩, hb => ⟨hk, ⟨L, o, hf, hb L (by unfold frs; rw [List.filterMap_cons, hf]; exact List.mem_cons_self), ho, hd⟩, funs_mono hr fun b h => hb b (by unfold frs; rw [List.filterMap_cons, hf]; exact List.mem_cons_of_mem _ h)⟩
theorem Fly.moved (F : Fly P w l H s cls fl a H' s') (ff : s.heap.FunFrames base l) (frf : ∀ b ∈ frs l, H b = none) (ffs : ∀ b ∈ frs l, H' b = none) {T : Addr} {oT : Obj} (hT0 : s.heap.get? T = none) (hT1 : H' T = none) {h' : Heap} {a0 : Value}
    (st : (flyB s'.heap l a T).StaysIn h') (up : s'.heap.UpToSlots h') (tr : h'.TracedAtW (flyB s'.heap l a T) a cls a0 fl') : Fly P w l H s cls fl' a H' { s' with heap := h' } := by
  have kp : ∀ b o, s'.heap.get? b = some o → b ≠ a → b ≠ T → b ∉ frs l → h'.get? b = some o := fun b o e h1 h2 h3 => st b o (PySem.W.hideAll_get _ e (by simp [h1, h2, h3]))
  have ff' := F.frames ff frf
  have nf : ∀ b ∈ frs l, ∀ o, s'.heap.get? b = some o → ∀ vs, o.data ≠ .fields vs := fun b hb o e vs z => by
    obtain ⟨_, o', ho, hd⟩ := ff'.mem hb
    rw [e] at ho; cases ho
    exact hd vs z
  have old : ∀ b o, s.heap.get? b = some o → b ≠ a ∧ b ≠ T := fun b o e => ⟨fun z => (by rw [z, F.new] at e; cases e), fun z => (by rw [z, hT0] at e; cases e)⟩
  refine ⟨F.os, F.bare, ⟨fun b o e n hb hx => ?_, fun b o e n hb hx => ?_, F.un.free, fun b o e hx => ?_, F.un.tups, F.un.frzs, F.un.tbls⟩, fun b o e => ?_, F.new, F.free, ?_⟩
  · exact kp b o (F.un.keep b o e n hb hx) (old b o e).1 (old b o e).2 hb
  · obtain ⟨sl, e1⟩ := F.un.slot b o e n hb hx
    obtain ⟨sl', e2⟩ := up b _ e1 (nf b hb _ e1)
    exact ⟨sl', e2⟩
  · obtain ⟨o', e1⟩ := F.un.there b o e hx
    by_cases hb : b ∈ frs l
    · obtain ⟨sl', e2⟩ := up b _ e1 (nf b hb _ e1)
      exact ⟨_, e2⟩
    · exact ⟨o', kp b o' e1 (old b o e).1 (old b o e).2 hb⟩
  · refine (F.hok b o e).stay (fun c u hc q => kp c u q ?_ ?_ ?_) (fun _ q => q) fun _ _ q => q
    · rintro rfl
      rcases hc with r | r
      · rw [← r, F.free] at e; cases e
      · rw [F.free] at r; cases r
    · rintro rfl
      rcases hc with r | r
      · rw [← r, hT1] at e; cases e
      · rw [hT1] at r; cases r
    · intro hm
      rcases hc with r | r
      · rw [← r, ffs _ hm] at e; cases e
      · rw [ffs _ hm] at r; cases r
  · obtain ⟨oe, vs, T', oT', ts, he, hc, hd, h1, hn, hne, hT', hdT, h3⟩ := tr
    have key : s'.heap.get? T' = none ∨ T' = T := by
      cases q : s'.heap.get? T' with
      | none => exact .inl rfl
      | some o =>
        refine .inr (Classical.byContradiction fun hz => ?_)
        by_cases hf : T' ∈ frs l
        · obtain ⟨sl', e2⟩ := up T' o q (nf T' hf o q)
          rw [hT'] at e2; cases e2
          exact nf T' hf o q ts hdT
        · have : (flyB s'.heap l a T).get? T' = some o := PySem.W.hideAll_get _ q (by simp [hz, hne, hf])
          rw [hn] at this; cases this
    refine ⟨oe, vs, a0, T', oT', ts, he, hc.1, hd, hc.2, h1, hne, hT', hdT, h3, ?_, ?_⟩
    · rcases key with z | z
      · cases q : s.heap.get? T' with
        | none => rfl
        | some o =>
          obtain ⟨o', e⟩ := F.un.there T' o q (by simp)
          rw [z] at e; cases e
      · rw [z]; exact hT0
    · rcases key with z | z
      · cases q : H' T' with
        | none => rfl
        | some o =>
          obtain ⟨o1, e1⟩ := obj_some (F.hok T' o q)
          rw [z] at e1; cases e1
      · rw [z]; exact hT1
end
end L2
namespace L2
open PySem PySem.Spec PyProof.Rows
section
variable {X : Cx} {pins : List (Addr × Obj)} {σ : St} {H H' : Hp} {s s' : Shared} {cls fl : Value} {a : Addr}
theorem Fly.inv (I : Inv X pins σ H s) (F : Fly X.prog X.w X.stack H s cls fl a H' s') : Inv X pins σ H' s' := I.call' (ch := []) F.os F.un F.hok F.bare fun b z => absurd z (by simp)
theorem Fly.up (I : Inv X pins σ H s) (hex : X.ex = []) (F : Fly X.prog X.w X.stack H s cls fl a H' s') : Fly X.prog X.w X.outer X.H₀ X.s₀ cls fl a H' s' := by
  have I2 := F.inv I
  have back : ∀ b, s.heap.get? b = none → X.s₀.heap.get? b = none := fun b e => by
    cases q : X.s₀.heap.get? b with
    | none => rfl
    | some o =>
      obtain ⟨o', e'⟩ := I.base.there b o q (by rw [hex]; simp)
      rw [e] at e'; cases e'
  obtain ⟨oe, vs, a0, T, oT, ts, h1, h2, h3, h4, h5, h6, h7, h8, h9, h10, h11⟩ := F.tr
  have b := I2.base
  rw [hex] at b
  exact ⟨I2.os, I2.bare, b, I2.hok, back a F.new, F.free, oe, vs, a0, T, oT, ts, h1, h2, h3, h4, h5, h6, h7, h8, h9, back T h10, h11⟩
theorem Fly.flying (I : Inv X pins σ H s) (F : Fly X.prog X.w X.stack H s cls .none a H' s') : ∃ T a0, s.heap.get? T = none ∧ H' T = none ∧ Heap.FlyingW (flyB s'.heap X.stack a T) X.stack a cls a0 s'.heap := by
  obtain ⟨oe, vs, a0, T, oT, ts, h1, h2, h3, h4, h5, h6, h7, h8, h9, h10, h11⟩ := F.tr
  refine ⟨T, a0, h10, h11, fun b o e => PySem.W.of_hideAll _ e, PySem.W.hideAll_none _ (by simp), ?_, oe, vs, T, oT, ts, h1, ⟨h2, h4⟩, h3, h5, PySem.W.hideAll_none _ (by simp), h6, h7, h8, h9⟩
  exact funs_mono (F.frames I.stack I.stkFree) fun b hb => PySem.W.hideAll_none _ (by simp [hb])
end

def PassS (CX : CXT) (X : Cx) (E : St → XK) : Prop := ∀ (pins : List (Addr × Obj)) (σ : St) (H : Hp) (s : Shared) (e : Value) (s' : Shared), Inv X pins σ H s → CX X.stack H s (E σ) e s' → X.xe e s'
def Raises (X : Cx) (E : St → XK) : Prop := ∀ (pins : List (Addr × Obj)) (σ : St) (H : Hp) (s : Shared) (C a : Addr) (h1 : Heap), Inv X pins σ H s → Heap.MadeExcOf s.heap h1 a (.ref C) [] → E σ (.ref C) none H → X.xe (.ref a) { s with heap := h1 }
theorem passF {P : Program} {w : World} {X : Cx} : PassS (CX1 P w) X (fun _ => E0) := fun pins σ H s e s' I ⟨_, _, _, _, _, h⟩ => h.elim

section
variable {P : Program} {w : World} {K : PySem.W.Frag} {mg : Str → Option Value} {base : Heap} {N : List Str} {qual : Str} {scope : Scope} {f : Addr} {cd : Value} {A : Around} {outer : List Env} {s : Shared} {H : Hp} {E : XK}
theorem pass_def : PassS (CX1 P w) (cxOf (CX1 P w) P w K mg base N qual scope f cd A outer s H E) (fun _ => E) := by
  intro pins σ H1 s1 e s' I hx
  obtain ⟨a, C, H', rfl, F, hE⟩ := hx
  obtain ⟨T, a0, hT0, hT1, hfl⟩ := F.flying I
  refine wpAny_leaves_onW (I.ok.frames) rfl hfl fun h' x1 x2 => ?_
  have F2 := F.moved (oT := { cls := .none, data := .dict #[] }) I.stack I.stkFree (F.inv I).stkFree hT0 hT1 x1.1 x2 x1.2.2.2.at
  exact ⟨a, C, H', rfl, F2.up I rfl, hE⟩
theorem fly_made {X : Cx} {pins : List (Addr × Obj)} {σ : St} {H : Hp} {s : Shared} {C a : Addr} {h1 h' : Heap} {a0 fl : Value} (I : Inv X pins σ H s) (hm : Heap.MadeExcOf s.heap h1 a (.ref C) [])
    (st : (PySem.W.hideAll s.heap (frs X.stack)).StaysIn h') (up : h1.UpToSlots h') (tr : h'.TracedAtW (PySem.W.hideAll s.heap (frs X.stack)) a (.ref C) a0 fl) : Fly X.prog X.w X.stack H s (.ref C) fl a H { s with heap := h' } := by
  have kp : ∀ b o, s.heap.get? b = some o → b ∉ frs X.stack → h'.get? b = some o := fun b o e h => st b o (PySem.W.hideAll_get _ e h)
  have nf : ∀ b ∈ frs X.stack, ∀ o, s.heap.get? b = some o → ∀ vs, o.data ≠ .fields vs := fun b hb o e vs z => by
    obtain ⟨_, o', ho, hd⟩ := I.stack.mem hb
    rw [e] at ho; cases ho
    exact hd vs z
  have none_of : ∀ b, s.heap.get? b = none → H b = none := fun b e => by
    cases q : H b with
    | none => rfl
    | some o => obtain ⟨u, e'⟩ := obj_some (I.hok b o q); rw [e] at e'; cases e'
  refine ⟨rfl, I.bare, ⟨fun b o e n hb hx => kp b o e hb, fun b o e n hb hx => up b o (hm.keeps b o e) (nf b hb o e), fun _ _ _ n _ => n, fun b o e hx => ?_, fun _ _ q => q, fun _ _ _ q => q, fun _ ps q => ⟨#[], by rw [q]; simp⟩⟩, fun b o e => ?_, hm.new, none_of a hm.new, ?_⟩
  · by_cases hb : b ∈ frs X.stack
    · obtain ⟨sl, e2⟩ := up b o (hm.keeps b o e) (nf b hb o e)
      exact ⟨_, e2⟩
    · exact ⟨o, kp b o e hb⟩
  · refine (I.hok b o e).stay (fun c u hc q => kp c u q fun hm' => ?_) (fun _ q => q) fun _ _ q => q
    rcases hc with r | r
    · rw [← r, I.stkFree _ hm'] at e; cases e
    · rw [I.stkFree _ hm'] at r; cases r
  · obtain ⟨oe, vs, T', oT', ts, he, hc, hd, h1', hn, hne, hT', hdT, h3⟩ := tr
    have key : s.heap.get? T' = none := by
      cases q : s.heap.get? T' with
      | none => rfl
      | some o =>
        by_cases hf : T' ∈ frs X.stack
        · obtain ⟨sl', e2⟩ := up T' o (hm.keeps _ _ q) (nf T' hf o q)
          rw [hT'] at e2; cases e2
          exact (nf T' hf o q ts hdT).elim
        · have : (PySem.W.hideAll s.heap (frs X.stack)).get? T' = some o := PySem.W.hideAll_get _ q hf
          rw [hn] at this; cases this
    exact ⟨oe, vs, a0, T', oT', ts, he, hc.1, hd, hc.2, h1', hne, hT', hdT, h3, key, none_of _ key⟩
theorem raise_def : Raises (cxOf (CX1 P w) P w K mg base N qual scope f cd A outer s H E) (fun _ => E) := by
  intro pins σ H1 s1 C a h1 I hm hE
  have hl := funs_mono (B' := PySem.W.hideAll s1.heap (frs (cxOf (CX1 P w) P w K mg base N qual scope f cd A outer s H E).stack)) I.stack fun b hb => PySem.W.hideAll_none _ hb
  refine wpAny_leaves_madeW (h := s1.heap) (s := { s1 with heap := h1 }) I.ok.frames rfl (fun b o e => PySem.W.of_hideAll _ e) hl hm fun h' t x1 x2 x3 x4 => ?_
  have F2 := fly_made I hm x1.1 x4 x1.2.2.2.at
  exact ⟨a, C, H1, rfl, F2.up I rfl, hE⟩
end

def tCallX (sp : Sp) (E : St → XK) (t : TA) : TE := fun σ H Q => t σ H fun vs H1 => sp vs H1 Q (E σ)
section
variable {X : Cx} {CX : CXT} {k : Nat} {f : Addr} {fd : FuncData} {ps : List Str} {sp : Sp} {E : St → XK} {x : Str} {p pos : Pos} {e : Expr} {es : List Expr} {t : TA}
theorem run_fnX {pins : List (Addr × Obj)} {σ : St} {H : Hp} {s : Shared} {Q : VK} {us : List Value} {vs : List V} (F : FnOk X.prog X.w X.K X.mg X.base CX k f fd ps sp) (hr : Room k X.A) (hb : Binds X.K fd ps []) (hx : PassS CX X E)
    (I : Inv X pins σ H s) (r : Vals vs us) (h : sp vs H Q (E σ)) : wpAny (model X.prog X.w) X.A (call (.ref f) us) (EP X pins σ Q) X.xe s := by
  have hl : us.length = ps.length := by rw [← r.length]; exact F.len _ _ _ _ h
  have hb' := hb s us I.kIn (by rw [List.append_nil]; exact hl)
  rw [List.append_nil] at hb'
  refine wpAny_call (codeAny_mono (F.run X.A X.stack s H ⟨us, []⟩ us vs Q (E σ) hr I.env0 hb' r h) fun r s' hq => ?_)
  cases r with
  | error e => exact hx pins σ H s e s' I hq
  | ok fl =>
    cases fl with
    | ret u => exact I.after hq
    | next => exact False.elim hq
    | brk => exact False.elim hq
    | cont => exact False.elim hq
theorem x_callX (F : FnOk X.prog X.w X.K X.mg X.base CX k f fd ps sp) (hr : Room k X.A) (hm : X.mg x = some (.ref f)) (hk : PySem.W.keepIn X.K (.ref f) = true) (hb : Binds X.K fd ps []) (hx : PassS CX X E)
    (ha : QA X (e :: es) t) (hg : Gl X x := by rfl) (hdb : (x == ("__debug__" : Str)) = false := by decide) (hs : noStars (e :: es) = true := by rfl) : QE X (.Call (.Name x p) (e :: es) [] pos) (tCallX sp E t) := by
  refine ⟨fun pins s σ H Q I h => ?_⟩
  have h' : (notStar e && noStars es) = true := hs
  refine wpAny_Call_Name_kw (ld_glob I hg hm ?_ hdb)
  refine PySem.W.callWith_K (h₀ := X.base) I.ok.mod.kin hk (thn (ha.out pos pins s σ H _ I h) fun us s1 ⟨vs, H1, I1, r, q⟩ => ⟨I1.kIn, ?_⟩) (starEach_plain (Bool.and_eq_true_iff.mp h').1 es X.env) (noStars_any (Bool.and_eq_true_iff.mp h').2)
  exact run_fnX F hr hb hx I1 r q
def tRaise (C : Addr) (E : St → XK) : TS := fun _ σ H => E σ (.ref C) none H
theorem x_raise {C : Addr} {np cpos : Pos} (hC : ExcOk X.K C) (hm : X.mg x = some (.ref C)) (hR : Raises X E) (hc : X.calm = true := by rfl) (hg : Gl X x := by rfl) (hdb : (x == ("__debug__" : Str)) = false := by decide) :
    QS X (.Raise (some (.Call (.Name x np) [] [] cpos)) none pos) (tRaise C E) := by
  refine ⟨fun pins s σ H D I h => ?_⟩
  obtain ⟨bm, N, nm, qn, bs, hdct, sn, sub, ab, col, dd, k0, k1, k2, k3, k5, mN, oC, hN, hni, T, _⟩ := exc_obj I.kIn hC
  refine wpAny_Raise_call_subU (C := C) (nm := nm) (q := qn) (N := N) (bs := bs) (bm := bm) (hdct := hdct) (sn := sn) (sub := sub) (ab := ab) (col := col) (dd := dd) (k0 := k0) (k1 := k1) (k2 := k2) (k3 := k3) (k5 := k5)
    F.excBase_ValueError (by decide +kernel) F.excBase_ValueError (mN := mN) (T.hasType F.excBase_ValueError.hasBase) (I.ok.hd hc) rfl hni (ld_glob I hg hm ⟨rfl, ?_⟩ hdb)
  exact evalArgs_empty ⟨rfl, Nat.zero_le _, oC, hN, T, fun h' e hm' => hR pins σ H s C e h' I hm' h⟩
end
theorem Fun.okX {P : Program} {w : World} {K : PySem.W.Frag} {mg : Str → Option Value} {base : Heap} {x qual : Str} {st : Stmt} {f : Addr} {fd : FuncData} {N ps : List Str} {k : Nat} {sp : Sp} (F : Fun K x qual st f fd) (S : FnScope N ps (defScope st)) (len : ∀ vs H Q E, sp vs H Q E → vs.length = ps.length)
    (hbody : ∀ (cdv : Value) (A : Around) (outer : List Env) (s : Shared) (H : Hp) (vs : List V) (Q : VK) (E : XK), Room k (A.deeper (envOfC qual (defScope st) s.heap.objs.size f cdv)) → sp vs H Q E →
      ∃ t, PSs (cxOf (CX1 P w) P w K mg base N qual (defScope st) f cdv A outer s H E) (defBody st) t ∧ t { nx := fun _ H' => Q .non H', rt := Q } (start N vs) H) : FnOk P w K mg base (CX1 P w) (k + 1) f fd ps sp := by
  obtain ⟨oc, od, kV, doc, pm, an, cdv, ct, osl, rfl, lk, hcd⟩ := F.ex
  exact fn_of lk hcd S len fun A outer s H vs Q E hr hsp => hbody cdv A outer s H vs Q E hr hsp
end L2
namespace L2
open PySem PySem.Spec PyProof.Rows
def excO (C a : Addr) : HO := .ext fun h => ∃ o vs, h.get? a = some o ∧ o.cls = .ref C ∧ o.data = .fields vs
theorem excO_ok {P : Program} {w : World} {H : Hp} {h : Heap} {C a : Addr} {o : Obj} {vs : Array Value} (e : h.get? a = some o) (hc : o.cls = .ref C) (hd : o.data = .fields vs) : ObjOk P w H h a (excO C a) :=
  ⟨⟨o, vs, e, hc, hd⟩, ⟨o, e⟩, fun h1 h2 ⟨o1, vs1, e1, c1, d1⟩ k => ⟨o1, vs1, k o1 e1, c1, d1⟩⟩
theorem excO_of {P : Program} {w : World} {H : Hp} {h : Heap} {C a : Addr} (x : ObjOk P w H h a (excO C a)) : ∃ o vs, h.get? a = some o ∧ o.cls = .ref C ∧ o.data = .fields vs := x.1
section
variable {X : Cx} {pins : List (Addr × Obj)} {σ : St} {H H1 H' : Hp} {s s0 : Shared} {a : Addr} {o : HO}
theorem Inv.track (I0 : Inv X pins σ H1 s0) (hex : X.ex = []) (I : Inv X pins σ H s) (new : s0.heap.get? a = none) (hn : H a = none) (ok : ObjOk X.prog X.w (upd H a o) s.heap a o) : Inv X pins σ (upd H a o) s := by
  have ne : ∀ b u, s0.heap.get? b = some u → b ≠ a := fun b u e z => by rw [z, new] at e; cases e
  have ne0 : ∀ b u, X.s₀.heap.get? b = some u → b ≠ a := fun b u e => by
    obtain ⟨u', e'⟩ := I0.base.there b u e (by rw [hex]; simp)
    exact ne b u' e'
  have nL : X.env.locals ≠ a := by
    obtain ⟨m, ⟨o', _, _, e, _⟩, _⟩ := I0.loc
    exact ne _ _ e
  refine ⟨I.ok, I.os, I.bare, ⟨I.base.keep, I.base.slot, fun b u e n hx => ?_, I.base.there, fun b xs e => ?_, fun b u v e => ?_, fun b ps e => ?_⟩, I.loc, I.cell, ?_, fun x c e => ?_, fun p hp => ?_, fun b u e => ?_, I.len⟩
  · rw [upd_ne (ne0 b u e)]; exact I.base.free b u e n hx
  · have := I.base.tups b xs e
    rw [upd_ne (ne_of_none this hn)]; exact this
  · have := I.base.frzs b u v e
    rw [upd_ne (ne_of_none this hn)]; exact this
  · obtain ⟨more, this⟩ := I.base.tbls b ps e
    exact ⟨more, by rw [upd_ne (ne_of_none this hn)]; exact this⟩
  · rw [upd_ne nL]; exact I.free
  · obtain ⟨v, o', e', _⟩ := I0.cell x c e
    rw [upd_ne (ne _ _ e')]; exact I.freeC x c e
  · obtain ⟨h1, h2, h3⟩ := I.pin p hp
    exact ⟨h1, by rw [upd_ne (ne _ _ (I0.pin p hp).1)]; exact h2, h3⟩
  · by_cases hb : b = a
    · subst hb
      rw [upd_same] at e; cases e
      exact ok
    · rw [upd_ne hb] at e
      exact (I.hok b u e).stay (fun c v _ q => q) (fun c q => by
        have : c ≠ a := ne_of_none q hn
        rw [upd_ne this]; exact q) fun c xs q => by
        have : c ≠ a := ne_of_none q hn
        rw [upd_ne this]; exact q
end
def cxH (X : Cx) (a : Addr) : Cx := { X with A := X.A.mark (some (.ref a)), calm := false, xe := fun _ _ => False }
section
variable {X : Cx} {pins : List (Addr × Obj)} {σ : St} {H : Hp} {s : Shared} {a : Addr}
theorem Cx.Ok.toH (ok : X.Ok) : (cxH X a).Ok := ⟨ok.mod, ok.kind, ok.glob, ok.blt, ok.above, ok.inj, ok.has, ok.cab, fun h => absurd (show false = true from h) Bool.false_ne_true, ok.frames, ok.stk, ok.exf, ok.bs, ok.bsz, ok.noex, ok.exfs, ok.funs, ok.frf⟩
theorem Inv.toH (I : Inv X pins σ H s) : Inv (cxH X a) pins σ H s := ⟨I.ok.toH, I.os, I.bare, I.base, I.loc, I.cell, I.free, I.freeC, I.pin, I.hok, I.len⟩
theorem Inv.ofH (ok : X.Ok) (I : Inv (cxH X a) pins σ H s) : Inv X pins σ H s := ⟨ok, I.os, I.bare, I.base, I.loc, I.cell, I.free, I.freeC, I.pin, I.hok, I.len⟩
theorem SP.ofH {D : Ends} {f : Flow} (ok : X.Ok) (h : SP (cxH X a) pins D f s) : SP X pins D f s := by
  cases f with
  | next => obtain ⟨σ', H', J, q⟩ := h; exact ⟨σ', H', J.ofH ok, q⟩
  | brk => obtain ⟨σ', H', J, q⟩ := h; exact ⟨σ', H', J.ofH ok, q⟩
  | cont => obtain ⟨σ', H', J, q⟩ := h; exact ⟨σ', H', J.ofH ok, q⟩
  | ret u => obtain ⟨v, σ', H', J, r, q⟩ := h; exact ⟨v, σ', H', J.ofH ok, r, q⟩
end
abbrev TH := Ends → St → Addr → Hp → Prop
def PH (X : Cx) (hs : List ExceptHandler) (t : TH) : Prop := ∀ (pins : List (Addr × Obj)) (s0 : Shared) (σ : St) (H1 H' : Hp) (C a : Addr) (s3 : Shared) (D : Ends), X.stack = X.env :: X.outer → X.env.frame = some X.env.locals → X.ex = [] →
  Inv X pins σ H1 s0 → Fly X.prog X.w X.stack H1 s0 (.ref C) .none a H' s3 → ExcOk X.K C → t D σ C H' → wpAny (model X.prog X.w) X.A (handleBy (.ref a) X.env hs) (SP X pins D) X.xe s3
structure QH (X : Cx) (hs : List ExceptHandler) (t : TH) : Prop where
  out : PH X hs t
def hNone : TH := fun _ _ _ _ => False
def asEnds (i : Nat) (D : Ends) : Ends := ⟨fun σ H => D.nx (σ.set i none) H, D.rt, fun σ H => D.bk (σ.set i none) H, fun σ H => D.ct (σ.set i none) H⟩
def hAs (K : PySem.W.Frag) (Dc : Addr) (i : Nat) (ts : TS) (r : TH) : TH := fun D σ C H => ∃ b, subIn K C Dc = some b ∧ Sel b (∀ a, H a = none → ts (asEnds i D) (σ.set i (some (.ref a))) (upd H a (excO C a))) (r D σ C H)
section
variable {X : Cx}
theorem x_hnil : QH X [] hNone := ⟨fun _ _ _ _ _ _ _ _ _ _ _ _ _ _ _ h => h.elim⟩
theorem fly_lands {pins : List (Addr × Obj)} {σ : St} {H H' : Hp} {s s' : Shared} {cls : Value} {a : Addr} {M : Model} {A : Around} {E : Value → Shared → Prop} {Q : Unit → Shared → Prop} (I : Inv X pins σ H s) (F : Fly X.prog X.w X.stack H s cls .none a H' s')
    (hQ : ∀ s'', Fly X.prog X.w X.stack H s cls .none a H' s'' → Q () s'') : wpAny M A (setFlight (.ref a) none) Q E s' := by
  obtain ⟨T, a0, hT0, hT1, hfl⟩ := F.flying I
  refine lands_againW hfl fun h' x1 x2 => ?_
  exact hQ _ (F.moved (oT := { cls := .none, data := .dict #[] }) I.stack I.stkFree (F.inv I).stkFree hT0 hT1 x1.1 x2 x1.2.2.2.at)
variable {x n : Str} {np hp : Pos} {Dc : Addr} {b0 : Stmt} {suite : List Stmt} {rest : List ExceptHandler} {ts : TS} {r : TH} {i : Nat}
theorem ld_globA {A : Around} {E : Value → Shared → Prop} {pins : List (Addr × Obj)} {s : Shared} {σ : St} {H : Hp} {u : Value} {pos : Pos} {Q : Value → Shared → Prop} (I : Inv X pins σ H s) (hg : Gl X x) (hm : X.mg x = some u) (h : Q u s)
    (hd : (x == ("__debug__" : Str)) = false := by decide) : wpAny (model X.prog X.w) A (eval (.Name x pos) X.env) Q E s :=
  Calls.Name_function_global I.ok.kind hg (Calls.loadGlobal_global (by rw [I.ok.glob]; exact I.mod.glob.keeps I.bk) hm h) hd
theorem x_has (i : Nat) (hN : X.N.Nodup) (hD : ExcOk X.K Dc) (hm : X.mg x = some (.ref Dc)) (hs : ∀ a, QSs (cxH X a) (b0 :: suite) ts) (hr : QH X rest r) (hg : Gl X x := by rfl) (hdb : (x == ("__debug__" : Str)) = false := by decide)
    (hi : X.N[i]? = some n := by rfl) (hl : X.env.scope.names.lookup n = some .local := by rfl) :
    QH X (.ExceptHandler (some (.Name x np)) (some n) (b0 :: suite) hp :: rest) (hAs X.K Dc i ts r) := by
  refine ⟨fun pins s0 σ H1 H' C a s3 D e1 e2 hex I F hC h => ?_⟩
  obtain ⟨b, hb, q⟩ := h
  have I3 := F.inv I
  obtain ⟨oe, vs, _, _, _, _, he, hc, hd, _⟩ := F.tr
  refine wpAny_handleBy_cons (codeAny_handlers_test (ld_globA I3 hg hm ?_ hdb)) (by intro q; cases q)
  refine excMatches_own I3.kIn hC hD he hc hb ?_
  have q := sel_ite q
  cases b with
  | false => exact hr.out pins s0 σ H1 H' C a s3 D e1 e2 hex I F hC q
  | true =>
    refine codeAny_handlers_suite_as (fly_lands I F fun s4 F4 => ?_)
    have I4 := F4.inv I
    obtain ⟨oe4, vs4, _, _, _, _, he4, hc4, hd4, _⟩ := F4.tr
    have I5 : Inv X pins σ (upd H' a (excO C a)) s4 := Inv.track I hex I4 F.new F.free (excO_ok he4 hc4 hd4)
    have hcls : (X.env.scope.kind == .class || (X.env.scope.kind == .module && X.env.locals != X.env.globals)) = false := by rw [I.ok.kind]; rfl
    refine store_ok (v := .ref a) I5 hN hi (.inl hl) rfl (fun s6 I6 => ?_) (.inr hl)
    refine wpAny_mono ((hs a).out pins s6 _ _ (asEnds i D) I6.toH (q a F.free)) (fun f s7 h7 => ?_) fun _ _ z => z.elim
    have h7 := SP.ofH I.ok h7
    -- the name goes
    have go : ∀ {σ' : St} {H'' : Hp} {Q : Unit → Shared → Prop}, Inv X pins σ' H'' s7 → (∀ s8, Inv X pins (σ'.set i none) H'' s8 → Q () s8) → wpAny (model X.prog X.w) X.A (do bindName X.env n .none; unbindBehindTheSuite X.env n hp) Q X.xe s7 := fun {σ' H'' Q} J hQ => by
      obtain ⟨m, hn, hloc⟩ := id J.loc
      refine wpAny_nameGoes_keeps hl hn hcls fun h' v hn' hs' => hQ _ ?_
      obtain ⟨oL, _, _, hoL, _⟩ := id hn
      refine ⟨J.ok, J.os, J.bare, ⟨fun b o e n hb hx => ?_, fun b o e n hb hx => ?_, J.base.free, fun b o e hx => ?_, J.base.tups, J.base.frzs, J.base.tbls⟩, ⟨_, hn', fun j y v' e1 e2 e3 => ?_⟩, fun y c e => ?_, J.free, J.freeC, fun p hp => ?_, fun b ob e => ?_, by simpa using J.len⟩
      · exact (hs'.2 b (Nat.ne_of_lt (Nat.lt_of_lt_of_le (Heap.lt_size e) J.ok.above))).trans (J.base.keep b o e n hb hx)
      · obtain ⟨sl, e1⟩ := J.base.slot b o e n hb hx
        exact ⟨sl, (hs'.2 b (Nat.ne_of_lt (Nat.lt_of_lt_of_le (Heap.lt_size e) J.ok.above))).trans e1⟩
      · obtain ⟨o', e1⟩ := J.base.there b o e hx
        exact ⟨o', (hs'.2 b (Nat.ne_of_lt (Nat.lt_of_lt_of_le (Heap.lt_size e) J.ok.above))).trans e1⟩
      · have hji : j ≠ i := by
          rintro rfl
          have : j < σ'.length := by rw [J.len]; exact (List.getElem?_eq_some_iff.mp hi).1
          rw [List.getElem?_set_self this] at e2; cases e2
        rw [List.getElem?_set_ne (Ne.symm hji)] at e2
        obtain ⟨u, ru, lk⟩ := hloc j y v' e1 e2 e3
        refine ⟨u, ru, ?_⟩
        rcases lk with ⟨k, e⟩ | ⟨k, c, e, z⟩
        · refine .inl ⟨k, ?_⟩
          have : y ≠ n := fun e => hji (nodup_ix hN e1 (e ▸ hi))
          simp [this, e]
        · exact .inr ⟨k, c, e, z.sameBut hs' (J.cne y c e)⟩
      · obtain ⟨w', z⟩ := J.cell y c e
        exact ⟨w', z.sameBut hs' (J.cne y c e)⟩
      · obtain ⟨e, n, ne, nf, d⟩ := J.pin p hp
        exact ⟨(hs'.2 p.1 ne).trans e, n, ne, nf, d⟩
      · refine (J.hok b ob e).stay (fun c w' hc q => (hs'.2 c ?_).trans q) (fun _ q => q) fun _ _ q => q
        rintro rfl
        rcases hc with r | hc
        · rw [← r, J.free] at e; cases e
        · rw [J.free] at hc; cases hc
    cases f with
    | next => obtain ⟨σ', H'', J, q'⟩ := h7; exact go J fun s8 J8 => ⟨_, _, J8, q'⟩
    | brk => obtain ⟨σ', H'', J, q'⟩ := h7; exact go J fun s8 J8 => ⟨_, _, J8, q'⟩
    | cont => obtain ⟨σ', H'', J, q'⟩ := h7; exact go J fun s8 J8 => ⟨_, _, J8, q'⟩
    | ret u => obtain ⟨v, σ', H'', J, rv, q'⟩ := h7; exact go J fun s8 J8 => ⟨v, _, _, J8, rv, q'⟩
end
end L2
namespace L2
open PySem PySem.Spec PyProof.Rows
def tTry (K : PySem.W.Frag) (tb : (St → XK) → TS) (th : TH) (te : TS) : TS := fun D σ H =>
  tb (fun σ' cls _ H' => ∃ C, cls = .ref C ∧ ExcOk K C ∧ th D σ' C H') { D with nx := te D } σ H
abbrev cxT (X : Cx) (pn : List (Addr × Obj)) (E' : Value → Shared → Prop) : Cx := { X with pn := pn, xe := E' }
section
variable {X : Cx} {pins pn : List (Addr × Obj)} {σ : St} {H : Hp} {s : Shared} {E' : Value → Shared → Prop}
theorem Cx.Ok.toT (ok : X.Ok) : (cxT X pn E').Ok := ⟨ok.mod, ok.kind, ok.glob, ok.blt, ok.above, ok.inj, ok.has, ok.cab, ok.hd, ok.frames, ok.stk, ok.exf, ok.bs, ok.bsz, ok.noex, ok.exfs, ok.funs, ok.frf⟩
theorem Inv.toT (I : Inv X pins σ H s) : Inv (cxT X (X.pn ++ pins) E') [] σ H s := ⟨I.ok.toT, I.os, I.bare, I.base, I.loc, I.cell, I.free, I.freeC, fun p hp => I.pin p (by
  have hp : p ∈ (X.pn ++ pins) ++ [] := hp
  rwa [List.append_nil] at hp), I.hok, I.len⟩
theorem Inv.ofT {pins' : List (Addr × Obj)} (ok : X.Ok) (I : Inv (cxT X (X.pn ++ pins) E') pins' σ H s) : Inv X pins σ H s := ⟨ok, I.os, I.bare, I.base, I.loc, I.cell, I.free, I.freeC, fun p hp => I.pin p (List.mem_append_left _ hp), I.hok, I.len⟩
theorem x_try {body orelse : List Stmt} {h0 : ExceptHandler} {hs : List ExceptHandler} {pos : Pos} {tb : (St → XK) → TS} {te : TS} {th : TH}
    (hb : ∀ (pn' : List (Addr × Obj)) (E' : Value → Shared → Prop) (EH : St → XK), PassS (CX1 X.prog X.w) (cxT X pn' E') EH → QSs (cxT X pn' E') body (tb EH)) (hh : QH X (h0 :: hs) th) (he : QSs X orelse te)
    (e1 : X.stack = X.env :: X.outer := by rfl) (e2 : X.env.frame = some X.env.locals := by rfl) (hex : X.ex = [] := by rfl) : QS X (.Try body (h0 :: hs) orelse [] pos) (tTry X.K tb th te) := by
  refine ⟨fun pins s σ H D I h => ?_⟩
  let E' : Value → Shared → Prop := fun e s1 => ∃ σ1 H1 s0 C a H', e = .ref a ∧ Inv X pins σ1 H1 s0 ∧ Fly X.prog X.w X.stack H1 s0 (.ref C) .none a H' s1 ∧ ExcOk X.K C ∧ th D σ1 C H'
  have pass : PassS (CX1 X.prog X.w) (cxT X (X.pn ++ pins) E') (fun σ' cls _ H' => ∃ C, cls = .ref C ∧ ExcOk X.K C ∧ th D σ' C H') := by
    intro pins' σ1 H1 s0 e s1 I1 hx
    obtain ⟨a, C, H', rfl, F, C', ec, hC, ht⟩ := hx
    cases ec
    exact ⟨σ1, H1, s0, C, a, H', rfl, I1.ofT I.ok, F, hC, ht⟩
  refine wpAny_Try_except (wpAny_mono ((hb (X.pn ++ pins) E' _ pass).out [] s σ H _ I.toT h) (fun f s1 h1 => ?_) fun e s1 h1 => ?_)
  · cases f with
    | next =>
      obtain ⟨σ', H', J, q⟩ := h1
      exact he.out pins s1 σ' H' D (J.ofT I.ok) q
    | brk => obtain ⟨σ', H', J, q⟩ := h1; exact ⟨σ', H', J.ofT I.ok, q⟩
    | cont => obtain ⟨σ', H', J, q⟩ := h1; exact ⟨σ', H', J.ofT I.ok, q⟩
    | ret u => obtain ⟨v, σ', H', J, rv, q⟩ := h1; exact ⟨v, σ', H', J.ofT I.ok, rv, q⟩
  · obtain ⟨σ1, H1, s0, C, a, H', rfl, I1, F, hC, ht⟩ := h1
    obtain ⟨T, a0, hT0, hT1, hfl⟩ := F.flying I1
    have hfr := I1.ok.frames
    rw [e1] at hfr
    have hfl' := hfl
    rw [e1] at hfl'
    refine wpAny_looks_onW hfr e2 hfl' fun h' x1 up1 => ?_
    refine wpAny_landsW x1 fun h'' x2 up2 => ?_
    have st : (flyB s1.heap X.stack a T).StaysIn h'' := by rw [e1]; exact x2.1
    have tr : h''.TracedAtW (flyB s1.heap X.stack a T) a (.ref C) a0 .none := by rw [e1]; exact x2.2.2.2.at
    have F3 := F.moved (oT := { cls := .none, data := .dict #[] }) I1.stack I1.stkFree (F.inv I1).stkFree hT0 hT1 st (up1.trans up2) tr
    exact hh.out pins s0 σ1 H1 H' C a _ D e1 e2 hex I1 F3 hC ht
end
section
variable {X : Cx}
end
end L2
namespace L2
open PySem PySem.Spec PyProof.Rows
structure ExcGet (K : PySem.W.Frag) (C : Addr) : Prop where
  ga : PySem.W.findIn K (.ref C) "__getattribute__" = some (some (.builtin "BaseException.__getattribute__"))
  na : PySem.W.findIn K (.ref C) "__getattr__" = some none
  cl : PySem.W.findIn K (.ref C) "__class__" = some (some (.builtin "object.__class__"))
  mo : PySem.W.mroIn K C (.type "object") = some true
  mb : PySem.W.mroIn K C (.type "BaseException") = some true
section
variable {K : PySem.W.Frag} {prog : Program} {w : World} {A : Around} {E : Value → Shared → Prop} {h : Heap} {g : Array GenState} {d : Drawn} {t : Nat} {os : OsState} {a C : Addr} {o : Obj}
theorem xc_type {M : Model} (hx : h.get? a = some o) (hc : o.cls = .ref C) : PySem.W.Looks M h (typeOf (.ref a)) (.ref C) := hc ▸ (PySem.W.Looks.ld hx).andThen .now
theorem xc_get {R : Result → Shared → Prop} (X : K.In h) (G : ExcGet K C) (hx : h.get? a = some o) (hc : o.cls = .ref C) (hq : R (.ok (.ret (.ref C))) ⟨h, g, d, t, os⟩) :
    codeAny (model prog w) A (.call (.builtin "getset_descriptor.__get__") ⟨[.builtin "object.__class__", .ref a, .ref C], []⟩) R ⟨h, g, d, t, os⟩ := by
  have hT5 : (⟨h, g, d, t, os⟩ : Shared).TypeIs (.builtin "object.__class__") "getset_descriptor" := F.typeOf_object_class
  have f8 := PySem.W.looks_mroIn (M := model prog w) X G.mo
  have hcB : (".".intercalate ("object.__class__".cutAt '.').dropLast) = "object" := F.owner_object_class
  refine codeAny_call_builtin F.slot_gs_get.plain F.entry_gs_get (F.slot_gs_get.check _ _ _ _ _ _ _ _ hT5 (F.args_gs_get _ _ _) ?_)
  repeat (any_goals (first | assumption | (with_reducible refine wpAny_loadPart_at hx ?_; rw [hc]) | (rw [hcB]; with_reducible refine f8.at ?_) | wp_step))
  refine ⟨Code.quiet_builtin _ (by decide +kernel), codeAny_builtin F.entry_object_class ?_⟩
  repeat (any_goals (first | assumption | (with_reducible refine wpAny_loadPart_at hx ?_; rw [hc]) | wp_step))
theorem xc_entry {tk : Tok} {Q : Fin → Shared → Prop} (X : K.In h) (G : ExcGet K C) (hx : h.get? a = some o) (hc : o.cls = .ref C) (hq : Q (.done (.ret (.ref C))) ⟨h, g, d, t, os⟩) :
    wpAny (model prog w) A (Builtin.«object.__getattribute__» ⟨[.ref a, .str "__class__" tk], []⟩) Q E ⟨h, g, d, t, os⟩ := by
  have hT5 : (⟨h, g, d, t, os⟩ : Shared).TypeIs (.builtin "object.__class__") "getset_descriptor" := F.typeOf_object_class
  have f4 := PySem.W.looks_findIn (M := model prog w) X G.cl
  have f5 := F.typeOf_object_class
  have f6 := F.slot_gs_get.lookup
  have f7 := F.slot_gs_set.lookup
  repeat (any_goals (first | assumption | (with_reducible refine wpAny_loadPart_at hx ?_; rw [hc]) | with_reducible refine f4.at ?_ | wp_step))
  refine xc_get X G hx hc ?_
  repeat (any_goals (first | assumption | wp_step))
theorem xc_check {M : Model} {nameV : Value} {Q : Unit → Shared → Prop} (X : K.In h) (G : ExcGet K C) (hx : h.get? a = some o) (hc : o.cls = .ref C) (hq : Q () ⟨h, g, d, t, os⟩) : wpAny M A (checkBuiltinCall "BaseException.__getattribute__" ⟨[.ref a, nameV], []⟩) Q E ⟨h, g, d, t, os⟩ := by
  have hk : builtinKind "BaseException.__getattribute__" = some .slot := by decide +kernel
  have hsplit : splitId "BaseException.__getattribute__" = some ("BaseException", "__getattribute__") := by decide +kernel
  have f8 := PySem.W.looks_mroIn (M := M) X G.mb
  have ha := F.args_bexc_ga (.ref a) nameV
  simp only [checkBuiltinCall, hk, hsplit]
  refine wpAny_bind ?_
  · unfold isInstance
    repeat (first | (with_reducible refine wpAny_loadPart_at hx ?_; rw [hc]) | with_reducible refine f8.at ?_ | wp_step)
    exact hq
theorem xc_call {tk : Tok} {R : Result → Shared → Prop} (X : K.In h) (G : ExcGet K C) (hx : h.get? a = some o) (hc : o.cls = .ref C) (hq : R (.ok (.ret (.ref C))) ⟨h, g, d, t, os⟩) :
    codeAny (model prog w) A (.call (.builtin "BaseException.__getattribute__") ⟨[.ref a, .str "__class__" tk], []⟩) R ⟨h, g, d, t, os⟩ :=
  codeAny_call_builtin F.excAttr_ValueError.ga.plain F.entry_bexc_ga (xc_check X G hx hc (xc_entry X G hx hc hq))
theorem xc_by {tk : Tok} {Q : Value → Shared → Prop} (X : K.In h) (G : ExcGet K C) (hx : h.get? a = some o) (hc : o.cls = .ref C) (hq : Q (.ref C) ⟨h, g, d, t, os⟩) :
    wpAny (model prog w) A (getAttrBy (.ref a) (.str "__class__" tk) false) Q E ⟨h, g, d, t, os⟩ := by
  have f3 := F.excAttr_ValueError.ga.bind (.ref a)
  have f1 := PySem.W.looks_findIn (M := model prog w) X G.ga
  have f2 := PySem.W.looks_findIn (M := model prog w) X G.na
  have hx2 : (Value.builtin "BaseException.__getattribute__" == Value.builtin "object.__getattribute__") = false := by decide +kernel
  have hx1 : (onTheHeap (Value.ref C) && Value.builtin "BaseException.__getattribute__" == Value.builtin "object.__getattribute__") = false := by rw [hx2]; rfl
  repeat (any_goals (first | assumption | (with_reducible refine wpAny_loadPart_at hx ?_; rw [hc]) | with_reducible refine f1.at ?_ | with_reducible refine f2.at ?_ | wp_step))
  refine xc_call X G hx hc ?_
  repeat (any_goals (first | assumption | wp_step))
theorem xc_attr {Q : Option Value → Shared → Prop} (X : K.In h) (G : ExcGet K C) (hx : h.get? a = some o) (hc : o.cls = .ref C) (hq : Q (some (.ref C)) ⟨h, g, d, t + 1, os⟩) :
    wpAny (model prog w) A (getAttr? (.ref a) "__class__") Q E ⟨h, g, d, t, os⟩ := by
  unfold getAttr? getAttrBy?
  repeat (any_goals (first | assumption | with_reducible apply xc_by X G hx hc | wp_step))
theorem xc_kit {a C : Addr} (hC : ExcOk K C) (G : ExcGet K C) : PySem.W.KitX K (.ref a) (.ref C) (fun h => ∃ o, h.get? a = some o ∧ o.cls = .ref C) where
  ty := fun M h X ⟨o, hx, hc⟩ => xc_type hx hc
  it := fun M h X _ => by
    obtain ⟨bm, N, nm, qn, bs, hdct, sn, sub, ab, col, dd, k0, k1, k2, k3, k5, mN, oC, _⟩ := exc_obj X hC
    intro A' Q' E' s' k q
    unfold isType loadHead
    exact wpAny_bind (wpAny_loadPart (k _ _ oC) (wpAny_pure q))
  ne := fun h tp dd its n sl X htp => by
    obtain ⟨bm, N, nm, qn, bs, hdct, sn, sub, ab, col, dd, k0, k1, k2, k3, k5, mN, oC, _⟩ := exc_obj X hC
    refine Bool.eq_false_iff.mpr fun q => ?_
    have e : C = tp := Value.ref.inj (beq_iff_eq.mp q)
    subst e
    rw [oC] at htp
    have z : Value.type "type" = Value.type "tuple" := congrArg Obj.cls (Option.some.inj htp)
    exact absurd z (by decide)
  ca := fun {prog w A E Q s} X ⟨o, hx, hc⟩ k => by
    obtain ⟨h, g, d, t, os⟩ := s
    exact xc_attr X G hx hc k
end
section
variable {X : Cx}
def kIsiE (K : PySem.W.Frag) : List V → Hp → VK → Prop := fun xs H Q => ∃ a C b c cv, xs = [.ref a, c] ∧ H a = some (excO C a) ∧ ExcOk K C ∧ ExcGet K C ∧ RelV c cv ∧ (∀ u, RelV c u → u = cv) ∧ PySem.W.kitOne K (.ref C) cv = some b ∧ Q (.bl b) H
theorem cIsiE : CallR X (.builtin "isinstance") (kIsiE X.K) := fun pins s σ H xs us Q I r h => by
  obtain ⟨a, C, b, c, cv, rfl, ha, hC, G, rc, un, hk, q⟩ := h
  obtain ⟨u, w', rfl, r1, r2⟩ := vals2 r
  cases un _ r2
  cases (show u = Value.ref a from r1)
  obtain ⟨o, vs, ho, hc, _⟩ := excO_of (P := X.prog) (w := X.w) (I.hok a _ ha)
  exact PySem.W.kia_one (xc_kit hC G) I.kIn ⟨o, ho, hc⟩ hk (fun z => nomatch z) fun tk => ⟨.bl _, H, I.tok tk, rfl, q⟩
theorem kIsiE.own {K : PySem.W.Frag} {H : Hp} {Q : VK} {a C D : Addr} {b : Bool} (ha : H a = some (excO C a)) (hC : ExcOk K C) (G : ExcGet K C) (hk : PySem.W.kitOne K (.ref C) (.ref D) = some b) (q : Q (.bl b) H) : kIsiE K [.ref a, .ref D] H Q :=
  ⟨a, C, b, .ref D, .ref D, rfl, ha, hC, G, rfl, fun u e => e, hk, q⟩
theorem kIsiE.ty {K : PySem.W.Frag} {H : Hp} {Q : VK} {a C : Addr} {T : String} {b : Bool} (ha : H a = some (excO C a)) (hC : ExcOk K C) (G : ExcGet K C) (hk : PySem.W.kitOne K (.ref C) (.type T) = some b) (q : Q (.bl b) H) : kIsiE K [.ref a, .ty T] H Q :=
  ⟨a, C, b, .ty T, .type T, rfl, ha, hC, G, rfl, fun u e => e, hk, q⟩
theorem x_gc {x : Str} {D : Addr} {pos : Pos} (hm : X.mg x = some (.ref D)) (hg : Gl X x := by rfl) (hd : (x == ("__debug__" : Str)) = false := by decide) : QE X (.Name x pos) (tC (.ref D)) := ⟨pe_glob hg hm rfl hd⟩
end
end L2
namespace HT
open PySem PyProof.Rows
section
variable {prog : Program} {w : World} {A : Around} {E : Value → Shared → Prop} {s : Shared}
theorem getItem_tuple_whole {t sl : Addr} {items : Array Value} {vl vu : Value} {lo hi : Option Int} {Q : Value → Shared → Prop} (ht : IsTup s.heap t items) (hs : s.heap.IsSliceOf sl vl vu .none) (pl : IsPart vl lo) (pu : IsPart vu hi)
    (hw : sIx items.size 0 lo = 0 ∧ sIx items.size items.size hi = items.size) (h : Q (.ref t) s) : wpAny (model prog w) A (getItem (.ref t) (.ref sl)) Q E s := by
  obtain ⟨os, hos, hcs, hds⟩ := id hs
  have hTs : s.TypeIs (.ref sl) "slice" := ⟨os, hos, hcs⟩
  unfold getItem
  try with_reducible refine wpAny_holding ?_
  first | refine wpAny_bind (wpAny_pure ?_) | skip
  refine wpAny_bind (wpAny_sequenceKey ht.typeIs (by decide) ?_)
  refine wpAny_bind (wpAny_callSpecial?_slot (name := Str.ofString "__getitem__") ht.typeIs PyProof.Rows.slot_tuple_getitem
    (wpAny_call_entry PyProof.Rows.slot_tuple_getitem ht.typeIs entry_tuple_getitem ?_ (args_tuple_getitem _ _)))
  show wpAny _ _ (Builtin.Tuple.tupleItemsOf (.ref t) >>= _) _ _ s
  refine wpAny_bind (tupleItemsOf_ ht ?_)
  refine wpAny_bind (wpAny_typeOf hTs ?_)
  rw [if_pos (by decide)]
  refine wpAny_bind (sliceApplied_gen hs pl pu ?_)
  have hyes : (((sIx items.size 0 lo : Nat) : Int) == 0 && (1 : Int) == 1 && (sIx items.size items.size hi - sIx items.size 0 lo) == items.size) = true := by
    rw [hw.1, hw.2]; simp
  show wpAny _ _ (if (((sIx items.size 0 lo : Nat) : Int) == 0 && (1 : Int) == 1 && (sIx items.size items.size hi - sIx items.size 0 lo) == items.size) = true then _ else _) _ _ s
  rw [if_pos hyes]
  have hte : s.TypeIs (.ref t) "tuple" := ht.typeIs
  unfold Builtin.Tuple.tupleIsExact
  repeat (first | exact ⟨_, rfl, wpAny_pure h⟩ | (with_reducible refine wpAny_typeOf hte ?_) | wp_step)
end
end HT
namespace HT
open PySem PyProof.Rows
section
variable {prog : Program} {w : World} {A : Around} {E : Value → Shared → Prop} {s : Shared}
theorem cat_tup0 {t b : Addr} {ws : List Value} {Q : Value → Shared → Prop} (ht : IsTup s.heap t #[]) (hb : IsTup s.heap b ws.toArray) (h1 : Q (.ref b) s) : wpAny (model prog w) A (binaryOp .Add (.ref t) (.ref b)) Q E s := by
  obtain ⟨⟨cls, dd, data, sl⟩, ho, hc, n, hd⟩ := id ht
  obtain ⟨⟨cls2, dd2, data2, sl2⟩, ho2, hc2, n2, hd2⟩ := id hb
  simp only at hc hd hc2 hd2
  subst hc hd hc2 hd2
  exact concat_meets ⟨_, ho, rfl⟩ ⟨_, ho2, rfl⟩ noFill_tuple_add seq_tuple_add PySem.F.slot_tuple_add PySem.F.entry_tuple_add (PySem.F.args_tuple_add_2 _ _)
      (tuple_addW0 t b #[] ws.toArray n n2 dd dd2 sl sl2 (by simp)) ⟨ho, ho2, h1⟩
end
end HT
namespace L2
open PySem PySem.Spec PyProof.Rows
theorem Same.rfl' {H : Hp} : Same H H := fun _ _ e => e
theorem cutV_whole {xs : List V} {lo hi : Option Int} (h : HT.sIx xs.length 0 lo = 0 ∧ HT.sIx xs.length xs.length hi = xs.length) : cutV xs lo hi = xs := by
  unfold cutV
  rw [h.1, h.2, List.drop_zero, Nat.sub_zero, List.take_length]
section
variable {X : Cx}
def rSlTG : V → Option Int → Option Int → Hp → VK → Prop := fun x lo hi H Q => ∃ a xs, x = .ref a ∧ H a = some (.tup xs) ∧ ∀ p H', Same H H' → H' p = some (.tup (cutV xs lo hi)) → Q (.ref p) H'
theorem sl_tupG : SlR X rSlTG := by
  intro pins s σ H x v vl vu lo hi sl Q I rx hs pl pu h
  obtain ⟨a, xs, rfl, hx, q⟩ := h
  have hq : SqT X.K H a xs := .inl (.inl hx)
  by_cases hw : HT.sIx xs.length 0 lo = 0 ∧ HT.sIx xs.length xs.length hi = xs.length
  · cases rx
    obtain ⟨its, r, ht, hz⟩ := I.tuple hq
    have hlen : its.toArray.size = xs.length := by rw [List.size_toArray]; exact r.length.symm
    refine ⟨"tuple", _, PyProof.Rows.slot_tuple_getitem.lookup, ht.typeIs, ?_⟩
    refine HT.getItem_tuple_whole ht hs pl pu (by rw [hlen]; exact hw) ?_
    exact ⟨.ref a, H, I, rfl, q a H Same.rfl' (by rw [cutV_whole hw]; exact hx)⟩
  · exact sl_tup pins s σ H _ v vl vu lo hi sl Q I rx hs pl pu ⟨a, xs, rfl, hq, hw, fun p hp => q p _ (Same.upd hp) (upd_same ..)⟩
def rCatG : R2 := fun x y H Q => ∃ a b xs ys, x = .ref a ∧ y = .ref b ∧ H a = some (.tup xs) ∧ H b = some (.tup ys) ∧ xs.length + ys.length ≤ sizeLine ∧ ∀ p H', Same H H' → H' p = some (.tup (xs ++ ys)) → Q (.ref p) H'
theorem op_catG : OpR X (binaryOp .Add) rCatG := by
  intro pins s σ H x y v u Q I rx ry h
  obtain ⟨a, b, xs, ys, rfl, rfl, ha, hb, hz, q⟩ := h
  by_cases hx : xs = []
  · subst hx
    cases rx
    cases ry
    obtain ⟨its, r1, p1, _⟩ := I.tuple (.inl (.inl ha))
    obtain ⟨its2, r2, p2, _⟩ := I.tuple (.inl (.inl hb))
    cases r1
    exact HT.cat_tup0 p1 p2 ⟨.ref b, H, I, rfl, q b H Same.rfl' hb⟩
  · refine op_catT pins s σ H _ _ v u Q I rx ry ⟨a, b, xs, ys, rfl, rfl, .inl (.inl ha), .inl (.inl hb), hx, hz, fun e => ?_, fun _ p hp => q p _ (Same.upd hp) (upd_same ..)⟩
    subst e
    exact q a H Same.rfl' (by rw [List.append_nil]; exact ha)
def mAddG (K : PySem.W.Frag) : R2 := fun x y H Q => match x, y with
  | .int i, .int j => Q (.int (i + j)) H
  | .str i, .str j => i.length + j.length ≤ sizeLine ∧ Q (.str (i ++ j)) H
  | .ref a, .ref b => rCat (.ref a) (.ref b) H Q ∨ rCatG (.ref a) (.ref b) H Q
  | _, _ => False
theorem oAddG : OpR X (binaryOp .Add) (mAddG X.K) := (op_add.or (op_add_str.or (op_cat.or op_catG))).imp fun x y H Q q => by
  unfold mAddG at q
  split at q
  · exact .inl ⟨_, _, rfl, rfl, q⟩
  · exact .inr (.inl ⟨_, _, rfl, rfl, q.1, q.2⟩)
  · exact .inr (.inr q)
  · exact q.elim
def rSlG (K : PySem.W.Frag) : V → Option Int → Option Int → Hp → VK → Prop := fun x lo hi H Q => rSlL K x lo hi H Q ∨ rSlTG x lo hi H Q
theorem sl_any : SlR X (rSlG X.K) := sl_list.or sl_tupG
inductive QJ (X : Cx) : List Expr → List TE → Prop where
  | nil : QJ X [] []
  | cons {e : Expr} {t : TE} {es : List Expr} {ts : List TE} : QE X e t → QJ X es ts → QJ X (e :: es) (t :: ts)
end
end L2
namespace L2
open PySem PySem.Spec PyProof.Rows
theorem subIn_of {K : PySem.W.Frag} {C D : Addr} {b : Bool} (h : PySem.W.mroIn K C (.ref D) = some b) : subIn K C D = some b := by
  unfold PySem.W.mroIn PySem.W.clsIn at h
  unfold subIn
  split at h
  · rename_i cd sl e
    rw [e]
    dsimp only [Option.bind] at h ⊢
    split at h
    · cases h
    · exact h
  · cases h
theorem Fun.okN {P : Program} {w : World} {K : PySem.W.Frag} {mg : Str → Option Value} {base : Heap} {CX : CXT} {x qual : Str} {st : Stmt} {f : Addr} {fd : FuncData} {N ps : List Str} {k : Nat} {sp : Sp} (F : Fun K x qual st f fd) (S : FnScope N ps (defScope st)) (len : ∀ vs H Q E, sp vs H Q E → vs.length = ps.length)
    (hbody : ∀ (cdv : Value) (A : Around) (outer : List Env) (s : Shared) (H : Hp) (vs : List V) (Q : VK) (E : XK), Room k (A.deeper (envOfC qual (defScope st) s.heap.objs.size f cdv)) → sp vs H Q E →
      ∃ t, PSs (cxOf CX P w K mg base N qual (defScope st) f cdv A outer s H E).nox (defBody st) t ∧ t { nx := fun _ H' => Q .non H', rt := Q } (start N vs) H) : FnOk P w K mg base CX (k + 1) f fd ps sp := by
  obtain ⟨oc, od, kV, doc, pm, an, cdv, ct, osl, rfl, lk, hcd⟩ := F.ex
  refine fn_of lk hcd S len fun A outer s H vs Q E hr hsp => ?_
  obtain ⟨t, h, q⟩ := hbody cdv A outer s H vs Q E hr hsp
  exact ⟨t, h.nox, q⟩
end L2
namespace L2
open PySem PySem.Spec PyProof.Rows
section
variable {X : Cx}
def rSlS : V → Option Int → Option Int → Hp → VK → Prop := fun x lo hi H Q => ∃ z, x = .str z ∧ z.length ≤ sizeLine ∧ Q (.str (Txt.slice z lo hi)) H
theorem sl_str : SlR X rSlS := by
  intro pins s σ H x v vl vu lo hi sl Q I rx hs pl pu h
  obtain ⟨z, rfl, hz, q⟩ := h
  obtain ⟨t, rfl⟩ := (show ∃ t, v = Value.str z t from rx)
  refine ⟨"str", _, F.slot_str_getitem.lookup, typeIs_str _ _ _, ?_⟩
  have fin : ∀ (l u : Option (Int × Tok)), l.map (·.1) = lo → u.map (·.1) = hi → s.heap.IsSlice sl l u none → wpAny (model X.prog X.w) X.A (getItem (.str z t) (.ref sl)) (EP X pins σ Q) X.xe s := fun l u e1 e2 hs' => by
    subst e1 e2
    refine wpAny_getItem_str_slice (l := l) (u := u) (st := none) hs' rfl (post_val_or_str ⟨Nat.le_trans (Txt.slice_le z _ _) hz, fun t' k => ⟨.str _, H, I.tok k, ⟨_, rfl⟩, q⟩⟩)
  obtain ⟨os, hos, hcs, hds⟩ := hs
  cases pl with
  | none => cases pu with
    | none => exact fin none none rfl rfl ⟨os, hos, hcs, hds⟩
    | int j tj => exact fin none (some (j, tj)) rfl rfl ⟨os, hos, hcs, hds⟩
  | int i ti => cases pu with
    | none => exact fin (some (i, ti)) none rfl rfl ⟨os, hos, hcs, hds⟩
    | int j tj => exact fin (some (i, ti)) (some (j, tj)) rfl rfl ⟨os, hos, hcs, hds⟩
def rSlA (K : PySem.W.Frag) : V → Option Int → Option Int → Hp → VK → Prop := fun x lo hi H Q => rSlG K x lo hi H Q ∨ rSlS x lo hi H Q
theorem sl_all : SlR X (rSlA X.K) := sl_any.or sl_str
def subS (z : Str) (a b : Nat) : Str := ⟨((z.cps.toList.drop a).take (b - a)).toArray⟩
theorem slice_to {z : Str} {j : Int} (h : 0 ≤ j ∧ j ≤ z.length) : Txt.slice z none (some j) = subS z 0 j.toNat := by
  have e := eq_of_beq (slice_closes_to (x := z) (j := j) ⟨h.1, by have := h.2; show j ≤ (z.cps.toList.length : Int); rw [Array.length_toList]; exact this⟩)
  rw [e]
  unfold subS
  have : (j - 0).toNat = j.toNat - 0 := by omega
  rw [this]; rfl
theorem slice_from {z : Str} {i : Int} (h : 0 ≤ i ∧ i ≤ z.length) : Txt.slice z (some i) none = subS z i.toNat z.length := by
  rw [slice_from_eq h.1 h.2 rfl]
  unfold subS
  have : ((z.length : Int) - i).toNat = z.length - i.toNat := by omega
  rw [this]
def plainP : V → Bool
  | .int _ => true
  | .str _ => true
  | _ => false
theorem eqAt_plain {A : Around} {s : Shared} {x y : V} {u v : Value} (rx : RelV x u) (ry : RelV y v) (hx : plainP x = true) (hy : plainP y = true) : PySem.SeqAt.EqAt A s u v (decide (x = y)) := by
  cases x <;> first | cases hx | skip
  all_goals (cases y <;> first | cases hy | skip)
  · obtain ⟨t, rfl⟩ := rx; obtain ⟨t', rfl⟩ := ry
    have e := PySem.SeqAt.EqAt.int_int (A := A) (s := s) ‹Int› t ‹Int› t'
    rename_i i j
    have e2 : decide (V.int i = V.int j) = (i == j) := by rw [decV (f := V.int) fun _ _ e => V.int.inj e]; rfl
    rw [e2]; exact PySem.SeqAt.EqAt.int_int i t j t'
  · obtain ⟨t, rfl⟩ := rx; obtain ⟨t', rfl⟩ := ry
    exact PySem.SeqAt.EqAt.int_str _ _ _ _
  · obtain ⟨t, rfl⟩ := rx; obtain ⟨t', rfl⟩ := ry
    exact PySem.SeqAt.EqAt.str_int _ _ _ _
  · obtain ⟨t, rfl⟩ := rx; obtain ⟨t', rfl⟩ := ry
    rename_i i j
    have e2 : decide (V.str i = V.str j) = (i == j) := by
      rw [decV (f := V.str) fun _ _ e => V.str.inj e]
      by_cases h : i = j
      · rw [h]; simp
      · rw [decide_eq_false h]; exact (beq_eq_false_iff_ne.mpr h).symm
    rw [e2]; exact PySem.SeqAt.EqAt.str_str i t j t'
theorem eq_by_get {xs ys : List V} : decide (xs = ys) = ((List.range (min xs.length ys.length)).all (fun j => decide (xs[j]? = ys[j]?)) && xs.length == ys.length) := by
  by_cases h : xs = ys
  · subst h; simp
  · rw [decide_eq_false h]
    by_cases hl : xs.length = ys.length
    · rw [hl, Nat.min_self, beq_self_eq_true, Bool.and_true]
      symm
      rw [List.all_eq_false]
      apply Classical.byContradiction
      intro hn
      apply h
      apply List.ext_getElem? fun i => ?_
      by_cases hi : i < ys.length
      · apply Classical.byContradiction
        intro hne
        exact hn ⟨i, List.mem_range.mpr hi, by simpa using hne⟩
      · rw [List.getElem?_eq_none (by omega), List.getElem?_eq_none (by omega)]
    · have : (xs.length == ys.length) = false := by simpa using hl
      rw [this, Bool.and_false]
def rEqT (K : PySem.W.Frag) : R2 := fun x y H Q => ∃ a b xs ys, x = .ref a ∧ y = .ref b ∧ SqT K H a xs ∧ SqT K H b ys ∧ xs.all plainP = true ∧ ys.all plainP = true ∧ Q (.bl (decide (xs = ys))) H
theorem op_eqT (hu : X.A.units < cLine) : OpR X (compareOp .Eq) (rEqT X.K) := by
  intro pins s σ H x y v u Q I rx ry h
  obtain ⟨a, b, xs, ys, rfl, rfl, ha, hb, px, py, q⟩ := h
  cases rx
  cases ry
  obtain ⟨its, r1, p1, _⟩ := I.tuple ha
  obtain ⟨its2, r2, p2, _⟩ := I.tuple hb
  have l1 := r1.length
  have l2 := r2.length
  refine PySem.SeqAt.eq_tupleAt (e := fun j => decide (xs[j]? = ys[j]?)) p1 p2 hu (fun j h1 h2 => ?_) ?_
  · have h1 : j < its.length := by simpa using h1
    have h2 : j < its2.length := by simpa using h2
    have e1 : xs[j]? = some xs[j] := List.getElem?_eq_getElem (by omega)
    have e2 : ys[j]? = some ys[j] := List.getElem?_eq_getElem (by omega)
    obtain ⟨u1, g1, ru1⟩ := r1.get e1
    obtain ⟨u2, g2, ru2⟩ := r2.get e2
    have g1' : its.toArray[j] = u1 := by
      rw [List.getElem?_eq_getElem h1] at g1; simpa using Option.some.inj g1
    have g2' : its2.toArray[j] = u2 := by
      rw [List.getElem?_eq_getElem h2] at g2; simpa using Option.some.inj g2
    rw [g1', g2', e1, e2]
    have : decide (some xs[j] = some ys[j]) = decide (xs[j] = ys[j]) := by simp
    rw [this]
    exact eqAt_plain ru1 ru2 (List.all_eq_true.mp px _ (List.getElem_mem _)) (List.all_eq_true.mp py _ (List.getElem_mem _))
  · have e := eq_by_get (xs := xs) (ys := ys)
    rw [l1, l2] at e
    simp only [List.size_toArray]
    rw [← e]
    exact ⟨.bl _, H, I, rfl, q⟩
def mInS : R2 := fun x y H Q => match x, y with
  | .str i, .str j => Q (.bl (!(Builtin.Str.occurrences j i 0 j.length 1).isEmpty)) H
  | _, _ => False
theorem oInS : OpR X (compareOp .In) mInS := op_in_str.imp fun x y H Q q => by
  unfold mInS at q
  split at q
  · exact ⟨_, _, rfl, rfl, q⟩
  · exact q.elim
def kInt : List V → Hp → VK → Prop := fun xs H Q => match xs with
  | [.str z] => ∃ n, PySem.intText? z = some n ∧ z.length ≤ 640 ∧ Q (.int n) H
  | [.bl b] => Q (.int (if b then 1 else 0)) H
  | _ => False
theorem cInt : CallR X (.type "int") kInt := fun pins s σ H xs us Q I r h => by
  unfold kInt at h
  split at h
  · obtain ⟨n, h1, h2, q⟩ := h
    obtain ⟨u, rfl, ru⟩ := vals1 r
    obtain ⟨t, rfl⟩ := ru
    exact PySem.W.KIN.call_text h1 h2 ⟨.int n, H, I.tok _, ⟨_, rfl⟩, q⟩
  · obtain ⟨u, rfl, ru⟩ := vals1 r
    cases ru
    exact call_int_bool ⟨.int _, H, I.tok _, ⟨_, rfl⟩, h⟩
  · exact h.elim
end
end L2
namespace HT
open PySem PyProof.Rows
section
variable {prog : Program} {w : World} {A : Around} {E : Value → Shared → Prop} {s : Shared}
structure ZipAt (h : Heap) (z TI TO i1 i2 t1 t2 : Addr) (xs ys : Array Value) (f0 : Value) (k : Nat) : Prop where
  z : IsZip h z TI TO f0
  ti : IsPair h TI (.ref i1) (.ref i2)
  to : ∃ a b, IsPair h TO a b
  j1 : h.IsTupleIter i1 t1 k
  j2 : h.IsTupleIter i2 t2 k
end
end HT
namespace HT
open PySem PyProof.Rows
section
variable {prog : Program} {w : World} {A : Around} {E : Value → Shared → Prop} {s : Shared}
end
end HT
namespace L2
open PySem PySem.Spec PyProof.Rows
section
variable {X : Cx} {pins : List (Addr × Obj)} {σ : St} {H : Hp} {s : Shared} {h' : Heap}
end
section
variable {X : Cx} {pins : List (Addr × Obj)} {σ : St} {H H1 : Hp} {s s0 : Shared} {a : Addr} {o : HO}
end
end L2
namespace L2
open PySem PySem.Spec PyProof.Rows
section
variable {X : Cx} {a b : Expr} {t : TA} {p pos ep : Pos} {elts : List Expr} {ek : Nat}
end
end L2
namespace L2
open PySem PySem.Spec PyProof.Rows
theorem bt_int : bootBuiltins "int" = some (.type "int") := by decide +kernel
section
variable {X : Cx} {a b : Expr} {t : TA} {p pos ep px py : Pos} {elts : List Expr} {ek : Nat} {x y : Str} {iter : Expr} {wi : TI} {tS : TS}
end
end L2
namespace L2
open PySem PySem.Spec PyProof.Rows
section
variable {X : Cx} {CX : CXT} {k : Nat} {f C : Addr} {fd : FuncData} {ps : List Str} {sp : Sp} {E : St → XK} {x m fl : Str} {p pos apos pos' : Pos} {e o value : Expr} {es : List Expr} {ta tv to : TE} {t : TA}
end
end L2
namespace L2
open PySem PySem.Spec PyProof.Rows
mutual
inductive DatV (K : PySem.W.Frag) (H : Hp) : V → PyData → Prop
  | non : DatV K H .non .none
  | bl (b) : DatV K H (.bl b) (.bool b)
  | int (i) : DatV K H (.int i) (.int i)
  | str (z) : DatV K H (.str z) (.str z)
  | lst {a xs ds} : SqL K H a xs → DatVs K H xs ds → DatV K H (.ref a) (.list ds)
  | tup {a xs ds} : SqT K H a xs → DatVs K H xs ds → DatV K H (.ref a) (.tuple ds)
inductive DatVs (K : PySem.W.Frag) (H : Hp) : List V → List PyData → Prop
  | nil : DatVs K H [] []
  | cons {x xs d ds} : DatV K H x d → DatVs K H xs ds → DatVs K H (x :: xs) (d :: ds)
end
section
variable {X : Cx}
mutual
theorem datV_reads {pins : List (Addr × Obj)} {σ : St} {H : Hp} {s : Shared} (I : Inv X pins σ H s) : ∀ {x : V} {d : PyData}, DatV X.K H x d → ∀ {v : Value}, RelV x v → ∃ as, Reads s.heap v d as
  | _, _, .non, _, r => by cases r; exact ⟨_, .none⟩
  | _, _, .bl b, _, r => by cases r; exact ⟨_, .bool b⟩
  | _, _, .int i, _, r => by obtain ⟨t, rfl⟩ := r; exact ⟨_, .int i t⟩
  | _, _, .str z, _, r => by obtain ⟨t, rfl⟩ := r; exact ⟨_, .str z t⟩
  | _, _, .lst h hs, _, r => by
    cases r
    obtain ⟨its, r1, ⟨o, n, h1, h2, _, h3⟩, _⟩ := I.list h
    obtain ⟨as, ra⟩ := datVs_reads I hs r1
    exact ⟨_, .list h1 h2 h3 (by simpa using ra)⟩
  | _, _, .tup h hs, _, r => by
    cases r
    obtain ⟨its, r1, ⟨o, h1, h2, n, h3⟩, _⟩ := I.tuple h
    obtain ⟨as, ra⟩ := datVs_reads I hs r1
    exact ⟨_, .tuple h1 h2 h3 (by simpa using ra)⟩
theorem datVs_reads {pins : List (Addr × Obj)} {σ : St} {H : Hp} {s : Shared} (I : Inv X pins σ H s) : ∀ {xs : List V} {ds : List PyData}, DatVs X.K H xs ds → ∀ {vs : List Value}, Vals xs vs → ∃ as, ReadsAll s.heap vs ds as
  | _, _, .nil, _, r => by cases r; exact ⟨_, .nil⟩
  | _, _, .cons h hs, _, r => by
    cases r with
    | cons r1 r2 =>
      obtain ⟨as, a⟩ := datV_reads I h r1
      obtain ⟨bs, b⟩ := datVs_reads I hs r2
      exact ⟨_, .cons a b⟩
end
def rEqD (K : PySem.W.Frag) : R2 := fun x y H Q => ∃ d e, DatV K H x d ∧ DatV K H y e ∧ d.canLay0 = true ∧ e.canLay0 = true ∧ d.depth ≤ 150 ∧ Q (.bl (d.eqv e)) H
def rNeD (K : PySem.W.Frag) : R2 := fun x y H Q => ∃ d e, DatV K H x d ∧ DatV K H y e ∧ d.canLay0 = true ∧ e.canLay0 = true ∧ d.depth ≤ 150 ∧ Q (.bl (!d.eqv e)) H
theorem op_eqD (hu : X.A.units + 150 < cLine) : OpR X (compareOp .Eq) (rEqD X.K) := by
  intro pins s σ H x y v u Q I rx ry h
  obtain ⟨d, e, hd, he, cd, ce, dp, q⟩ := h
  obtain ⟨as, ra⟩ := datV_reads I hd rx
  obtain ⟨bs, rb⟩ := datV_reads I he ry
  exact PySem.SeqAt.compareEq_reads ra rb cd ce (by have := Nat.min_le_left d.depth e.depth; omega) ⟨.bl _, H, I, rfl, q⟩
theorem op_neD (hu : X.A.units + 150 < cLine) : OpR X (compareOp .NotEq) (rNeD X.K) := by
  intro pins s σ H x y v u Q I rx ry h
  obtain ⟨d, e, hd, he, cd, ce, dp, q⟩ := h
  obtain ⟨as, ra⟩ := datV_reads I hd rx
  obtain ⟨bs, rb⟩ := datV_reads I he ry
  exact PySem.SeqAt.compareNe_reads ra rb cd ce (by have := Nat.min_le_left d.depth e.depth; omega) ⟨.bl _, H, I, rfl, q⟩
theorem Room.units150 {k : Nat} {A : Around} (r : Room k A) : A.units + 150 < cLine := by have := r.un; omega
def mNeB (K : PySem.W.Frag) : R2 := fun x y H Q => match x, y with
  | .ref a, y => rNeD K (.ref a) y H Q
  | x, .ref b => rNeD K x (.ref b) H Q
  | x, y => mNe x y H Q
theorem oNeB (hu : X.A.units + 150 < cLine) : OpR X (compareOp .NotEq) (mNeB X.K) := ((op_neD hu).or oNe).imp fun x y H Q q => by
  unfold mNeB at q
  split at q
  · exact .inl q
  · exact .inl q
  · exact .inr q
variable {o : Expr} {to : TE} {name : Str} {apos cpos : Pos} {T id : String} {rm : V → List V → Hp → VK → Prop}
end
def dInts (ns : List Int) : List PyData := ns.map PyData.int
theorem depthAll_ints : ∀ ns : List Int, PyData.depthAll (dInts ns) = 0
  | [] => rfl
  | i :: r => by show max 0 (PyData.depthAll (dInts r)) = 0; rw [depthAll_ints r]; rfl
theorem depth_ints (ns : List Int) : (PyData.list (dInts ns)).depth ≤ 150 := by show PyData.depthAll (dInts ns) + 1 ≤ 150; rw [depthAll_ints]; decide
end L2
namespace L2
open PySem PySem.Spec PyProof.Rows
theorem empty_str : (("" : String) : Str) = Str.empty := by decide
theorem join0 : ∀ xs : List Str, Str.join "" xs = xs.foldr (· ++ ·) Str.empty
  | [] => rfl
  | [x] => (Str.append_empty x).symm
  | x :: y :: r => by
    show x ++ (("" : String) : Str) ++ Str.join "" (y :: r) = x ++ (y :: r).foldr (· ++ ·) Str.empty
    rw [join0 (y :: r), empty_str, Str.append_empty]
theorem join_eq (xs : List Str) : Txt.join "" xs = xs.foldr (· ++ ·) Str.empty := (eq_of_beq (join_plain_closes "" xs)).trans (join0 xs)
theorem glue_len : ∀ xs : List Str, (xs.foldr (· ++ ·) Str.empty).length = (xs.map (·.length)).sum
  | [] => by decide
  | x :: r => by
    show (x ++ r.foldr (· ++ ·) Str.empty).length = _
    rw [strLen_append, glue_len r, List.map_cons, List.sum_cons]
theorem line_ge {n : Nat} (h : n ≤ 1000000) : n ≤ sizeLine := by rw [sizeLine_eq]; omega
theorem atI_ex {α : Type} {xs : List α} {i : Int} (h0 : 0 ≤ i) (h1 : i < xs.length) : ∃ c, atI xs i = some c := by
  unfold atI ixN
  rw [if_pos h0, if_pos h1]
  have : i.toNat < xs.length := by omega
  exact ⟨xs[i.toNat], by show xs[i.toNat]? = _; rw [List.getElem?_eq_getElem this]⟩
theorem sum_ones : ∀ (xs : List Str), (∀ x ∈ xs, x.length = 1) → (xs.map (·.length)).sum = xs.length
  | [], _ => rfl
  | x :: r, h => by
    rw [List.map_cons, List.sum_cons, List.length_cons, sum_ones r fun y hy => h y (List.mem_cons_of_mem _ hy), h x List.mem_cons_self]; omega
theorem join_len (xs : List Str) (h : ∀ x ∈ xs, x.length = 1) : (Txt.join "" xs).length = xs.length := by rw [join_eq, glue_len, sum_ones xs h]
end L2
namespace L2
open PySem PySem.Spec PyProof.Rows
section
variable {X : Cx}
theorem Room.units1 {k : Nat} {A : Around} (r : Room k A) : A.units + 1 < cLine := by have := r.un; omega
def rIxD : R2 := fun x y H Q => ∃ a v, x = .ref a ∧ DGet H a y (some v) ∧ Q v H
theorem ix_dict (hu : X.A.units + 1 < cLine) : IxR X rIxD := by
  intro value slice pins s σ H x y v u Q I rx ry h hs
  obtain ⟨a, w0, rfl, g, q⟩ := h
  obtain rfl : v = Value.ref a := rx
  have hT := dict_typeIs I g
  have h2 : wpAny (model X.prog X.w) X.A (getItem (.ref a) u) (EP X pins σ Q) X.xe s := d_getItem hu I g ry fun w' s3 I3 rw' => ⟨w0, H, I3, rw', q⟩
  unfold subscriptTail
  refine wpAny_bind ?_
  rw [getitemInPython_of_ne hT.not_modules]
  refine wpAny_bind (wpAny_specialOf hT PySem.F.slot_dict_getitem.lookup ?_)
  have fin : wpAny (model X.prog X.w) X.A (subscripted slice false (.ref a) u) (fun r s₃ => wpAny (model X.prog X.w) X.A (letTemporaryGo value (.ref a) r >>= fun _ => pure r) (EP X pins σ Q) X.xe s₃) X.xe s := by
    rw [hs]
    exact wpAny_operating (wpAny_mono h2 (fun r s₃ h₃ => wpAny_bind (wpAny_letTemporaryGo (wpAny_pure h₃))) fun _ _ x => x)
  first
    | exact wpAny_pure (wpAny_bind fin)
    | exact wpAny_bind (wpAny_pure (wpAny_bind fin))
    | exact wpAny_bind fin
def rIxA (K : PySem.W.Frag) : R2 := fun x y H Q => rIx K x y H Q ∨ rIxD x y H Q
theorem ix_any (hu : X.A.units + 1 < cLine) : IxR X (rIxA X.K) := ix_seq.or (ix_dict hu)
variable {o e : Expr} {to te : TE} {p pos : Pos}
def rInD : R2 := fun y x H Q => ∃ a o, x = .ref a ∧ DGet H a y o ∧ Q (.bl o.isSome) H
theorem op_inD (hu : X.A.units + 1 < cLine) : OpR X (compareOp .In) rInD := by
  intro pins s σ H x y v u Q I rx ry h
  obtain ⟨a, ov, rfl, g, q⟩ := h
  obtain rfl : u = Value.ref a := ry
  exact d_in hu I g rx fun s3 I3 => ⟨.bl ov.isSome, H, I3, rfl, q⟩
def rNotInD : R2 := fun y x H Q => ∃ a o, x = .ref a ∧ DGet H a y o ∧ Q (.bl (!o.isSome)) H
theorem op_notInD (hu : X.A.units + 1 < cLine) : OpR X (compareOp .NotIn) rNotInD := by
  intro pins s σ H x y v u Q I rx ry h
  obtain ⟨a, ov, rfl, g, q⟩ := h
  obtain rfl : u = Value.ref a := ry
  exact d_notIn hu I g rx fun s3 I3 => ⟨.bl (!ov.isSome), H, I3, rfl, q⟩
def rInL (K : PySem.W.Frag) : R2 := fun y x H Q => ∃ d ds, DatV K H y d ∧ (DatV K H x (.list ds) ∨ DatV K H x (.tuple ds)) ∧ PyData.canLayAll0 ds = true ∧ d.canLay0 = true ∧ d.depth ≤ 140 ∧ Q (.bl (ds.any fun e => e.eqv d)) H
def rNotInL (K : PySem.W.Frag) : R2 := fun y x H Q => ∃ d ds, DatV K H y d ∧ (DatV K H x (.list ds) ∨ DatV K H x (.tuple ds)) ∧ PyData.canLayAll0 ds = true ∧ d.canLay0 = true ∧ d.depth ≤ 140 ∧ Q (.bl (!ds.any fun e => e.eqv d)) H
theorem op_inL (hu : X.A.units + 150 < cLine) : OpR X (compareOp .In) (rInL X.K) := by
  intro pins s σ H x y v u Q I rx ry h
  obtain ⟨d, ds, hd, hx, c1, c2, dp, q⟩ := h
  obtain ⟨as, ra⟩ := datV_reads I hd rx
  have hm : X.A.units + 1 + min (PyData.depthAll ds) d.depth < cLine := by have := Nat.min_le_right (PyData.depthAll ds) d.depth; omega
  rcases hx with hx | hx
  · obtain ⟨bs, rb⟩ := datV_reads I hx ry
    exact PySem.SeqAt.in_list_reads rb ra c1 c2 hm ⟨.bl _, H, I, rfl, q⟩
  · obtain ⟨bs, rb⟩ := datV_reads I hx ry
    exact PySem.SeqAt.in_tuple_reads rb ra c1 c2 hm ⟨.bl _, H, I, rfl, q⟩
theorem op_notInL (hu : X.A.units + 150 < cLine) : OpR X (compareOp .NotIn) (rNotInL X.K) := by
  intro pins s σ H x y v u Q I rx ry h
  obtain ⟨d, ds, hd, hx, c1, c2, dp, q⟩ := h
  obtain ⟨as, ra⟩ := datV_reads I hd rx
  have hm : X.A.units + 1 + min (PyData.depthAll ds) d.depth < cLine := by have := Nat.min_le_right (PyData.depthAll ds) d.depth; omega
  rcases hx with hx | hx
  · obtain ⟨bs, rb⟩ := datV_reads I hx ry
    exact PySem.SeqAt.notIn_list_reads rb ra c1 c2 hm ⟨.bl _, H, I, rfl, q⟩
  · obtain ⟨bs, rb⟩ := datV_reads I hx ry
    exact PySem.SeqAt.notIn_tuple_reads rb ra c1 c2 hm ⟨.bl _, H, I, rfl, q⟩
def mInA (K : PySem.W.Frag) : R2 := fun y x H Q => match y, x with
  | y, .ref a => rInD y (.ref a) H Q ∨ rInL K y (.ref a) H Q
  | y, x => mInS y x H Q
theorem oInA (hu : X.A.units + 150 < cLine) : OpR X (compareOp .In) (mInA X.K) := ((op_inD (by omega)).or ((op_inL hu).or oInS)).imp fun x y H Q q => by
  unfold mInA at q
  split at q
  · exact q.elim .inl fun z => .inr (.inl z)
  · exact .inr (.inr q)
def mNotInA (K : PySem.W.Frag) : R2 := fun y x H Q => rNotInD y x H Q ∨ rNotInL K y x H Q
theorem oNotInA (hu : X.A.units + 150 < cLine) : OpR X (compareOp .NotIn) (mNotInA X.K) := (op_notInD (by omega)).or (op_notInL hu)
def tDNewA : TE := fun σ H Q => tDNewK σ H Q ∨ tDNewT σ H Q
theorem x_dnewA : QE X (.Dict [] [] pos) tDNewA := ⟨fun pins s σ H Q I h => h.elim (pe_dnewK pins s σ H Q I) (pe_dnewT pins s σ H Q I)⟩
theorem call_lenT : CallR X (.builtin "len") (fun xs H Q => ∃ p kvs, xs = [.ref p] ∧ H p = some (.dT kvs) ∧ Q (.int kvs.length) H) := by
  intro pins s σ H xs us Q I r h
  obtain ⟨a, kvs, rfl, e, q⟩ := h
  obtain ⟨u, rfl, r1⟩ := vals1 r
  cases r1
  obtain ⟨z, hd, ps, rel, dd⟩ := dt_of I.hok e
  have hl : ps.length = kvs.length := (Paired.length rel).symm
  have hT : s.TypeIs (.ref a) "dict" := dd.typeIs
  obtain ⟨o, es, ep, ho, hc, hdat, he, his, hn⟩ := dd
  have hsz : es.size = kvs.length := by rw [← hl]; have := congrArg List.length he; simpa using this
  have M : MeetsIn X.prog X.w (Builtin.«dict.__len__» ⟨[.ref a], []⟩) (fun _ R s => s.heap.get? a = some o ∧ R (.ok (.ret (.int kvs.length s.toks))) { s with toks := s.toks + 1 }) :=
    .of_wp fun A R s ⟨ho, h⟩ => by
      show wpAny _ _ (dictSize a >>= _) _ _ s
      unfold dictSize
      refine wpAny_bind (wpAny_bind (wpAny_dictEntries ho hdat (wpAny_pure ?_)))
      show wpAny _ _ (Builtin.Dict.pendingCount a >>= _) _ _ s
      refine wpAny_bind (wpAny_pendingCount_other hd ?_)
      refine wpAny_ret_mkInt ?_
      rw [Nat.add_zero, hsz]; exact h
  refine Calls.call_function_entry kind_len plain_len entry_len (args_len1 _) ?_
  unfold Builtin.«len»
  refine wpAny_bind (m := oneArg "len" _) (wpAny_pure ?_)
  refine wpAny_bind (m := callSpecial? (.ref a) (Str.ofString "__len__")) (wpAny_callSpecial?_slot (name := Str.ofString "__len__") hT F.slot_dict_len
    (call_meetsIn F.slot_dict_len hT F.entry_dict_len (F.args_dict_len_1 _) M ⟨ho, ?_⟩))
  show wpAny _ _ _ _ _ { s with toks := s.toks + 1 }
  refine wpAny_bind (wpAny_holding (wpAny_pure ?_))
  refine wpAny_bind (wpAny_letGo ?_)
  have zz : kvs.length ≤ sizeLine := z
  rw [sizeLine_eq] at zz
  show wpAny _ _ (if ((kvs.length : Nat) : Int) < 0 then _ else _) _ _ _
  rw [if_neg (by omega)]
  show wpAny _ _ (if ((kvs.length : Nat) : Int) ≥ 2 ^ 63 then _ else _) _ _ _
  rw [if_neg (by omega)]
  exact wpAny_bind (wpAny_mkInt (wpAny_pure ⟨_, rfl, ⟨.int kvs.length, H, I.tok _, ⟨_, rfl⟩, q⟩⟩))
def kLenA (K : PySem.W.Frag) : List V → Hp → VK → Prop := fun xs H Q => kLen K xs H Q ∨ ∃ p kvs, xs = [.ref p] ∧ H p = some (.dT kvs) ∧ Q (.int kvs.length) H
theorem cLenA : CallR X (.builtin "len") (kLenA X.K) := cLen.or call_lenT
end
end L2
namespace L2
open PySem PySem.Spec PyProof.Rows
theorem plain_is {h : Heap} {a : Addr} {its : Array Value} (p : PlainL h a its) : h.IsList a its := let ⟨o, n, e, c, _, d⟩ := p; ⟨o, e, c, n, d⟩
structure ZipAtL (h : Heap) (z TI TO i1 i2 t1 t2 : Addr) (k : Nat) : Prop where
  z : IsZip h z TI TO .none
  ti : IsPair h TI (.ref i1) (.ref i2)
  to : ∃ a b, IsPair h TO a b
  j1 : h.IsListIter i1 t1 k
  j2 : h.IsListIter i2 t2 k
section
variable {X : Cx} {a b : Expr} {t : TA} {p pos ep : Pos} {elts : List Expr} {ek : Nat}
end
end L2
namespace L2
open PySem PySem.Spec PyProof.Rows
structure CloT where
  qual : Str
  body : FuncBody
  scope : Scope
  ps : List Str
  ys : List Str
def CloFd (t : CloT) (cs : List Addr) (c : Addr) (fd : FuncData) : Prop :=
  fd.qualname = t.qual ∧ fd.body = t.body ∧ fd.scope = t.scope ∧ fd.globals = mainGlobals ∧ fd.closure = t.ys.zip cs ∧ fd.code = .ref c ∧ fd.builtins = builtinsNs ∧
    (∀ us : List Value, us.length = t.ps.length → bindArgs fd ⟨us, []⟩ = pure (t.ps.zip us)) ∧ cs.Nodup ∧ cs.length = t.ys.length
def cloO (f : Addr) (t : CloT) (cs : List Addr) (c : Addr) : HO := .ext fun h => ∃ od fd sl, h.get? f = some ⟨.type "function", od, .func fd, sl⟩ ∧ CloFd t cs c fd
def codeO (c : Addr) (qual : Str) : HO := .ext fun h => ∃ o vs tk, h.get? c = some o ∧ o.data = .fields vs ∧ vs[1]? = some (.str qual tk)
def cellO (c : Addr) (v : V) : HO := .ext fun h => ∃ u o, RelV v u ∧ h.get? c = some o ∧ o.data = .cell (some u)
abbrev CellsAt (H : Hp) : List Addr → List V → Prop := Paired fun c v => H c = some (cellO c v)
structure CloAt (H : Hp) (f : Addr) (t : CloT) (cs : List Addr) (cvs : List V) : Prop where
  ex : ∃ c, H f = some (cloO f t cs c) ∧ H c = some (codeO c t.qual)
  cells : CellsAt H cs cvs
theorem CellsAt.mem {H : Hp} {cs : List Addr} {cvs : List V} (h : CellsAt H cs cvs) : ∀ c ∈ cs, ∃ v, H c = some (cellO c v) := by
  induction h with
  | nil => intro c hc; cases hc
  | cons r t ih =>
    intro c hc
    rcases List.mem_cons.mp hc with rfl | hc
    · exact ⟨_, r⟩
    · exact ih c hc
theorem CellsAt.get {H : Hp} {cs : List Addr} {cvs : List V} (h : CellsAt H cs cvs) : ∀ {i : Nat} {v : V}, cvs[i]? = some v → ∃ c, cs[i]? = some c ∧ H c = some (cellO c v) := by
  induction h with
  | nil => intro i v e; cases e
  | @cons c w cs ws r t ih =>
    intro i v e
    cases i with
    | zero => cases e; exact ⟨c, rfl, r⟩
    | succ i => exact ih e
def hideC (cs : List Addr) (H : Hp) : Hp := fun b => if b ∈ cs then none else H b
def backC (cs : List Addr) (H H' : Hp) : Hp := fun b => if b ∈ cs then H b else H' b
theorem hideC_in {cs : List Addr} {H : Hp} {b : Addr} (h : b ∈ cs) : hideC cs H b = none := if_pos h
theorem hideC_out {cs : List Addr} {H : Hp} {b : Addr} (h : b ∉ cs) : hideC cs H b = H b := if_neg h
theorem backC_in {cs : List Addr} {H H' : Hp} {b : Addr} (h : b ∈ cs) : backC cs H H' b = H b := if_pos h
theorem backC_out {cs : List Addr} {H H' : Hp} {b : Addr} (h : b ∉ cs) : backC cs H H' b = H' b := if_neg h
theorem CellsAt.notin {H : Hp} {cs : List Addr} {cvs : List V} (h : CellsAt H cs cvs) {b : Addr} {o : HO} (e : H b = some o) (hn : ∀ φ, o ≠ .ext φ) : b ∉ cs := fun hb => by
  obtain ⟨v, ev⟩ := h.mem b hb
  rw [e] at ev
  exact hn _ (Option.some.inj ev)
theorem CellsAt.hide {H : Hp} {cs : List Addr} {cvs : List V} (h : CellsAt H cs cvs) {b : Addr} {o : HO} (e : H b = some o) (hn : ∀ φ, o ≠ .ext φ) : hideC cs H b = some o := by
  rw [hideC_out (h.notin e hn)]; exact e
theorem Same.hide {H H' : Hp} (cs : List Addr) (s : Same (hideC cs H) H') : Same H (backC cs H H') := fun b o e => by
  by_cases hb : b ∈ cs
  · rw [backC_in hb]; exact e
  · rw [backC_out hb]; exact s _ _ (by rw [hideC_out hb]; exact e)
section
variable {P : Program} {w : World} {fs : List Addr} {H H' : Hp} {h h' : Heap} {cs : List Addr} {cvs : List V}
theorem back_ok (hc : CellsAt H cs cvs) (hfs : ∀ b ∈ fs, H b = none) (ok : HOk P w H h) (u : Un fs [] (hideC cs H) H' h h') (ok' : HOk P w H' h') : Un fs [] H (backC cs H H') h h' ∧ HOk P w (backC cs H H') h' := by
  have obj : ∀ c ∈ cs, ∃ v o, H c = some (cellO c v) ∧ h.get? c = some o ∧ h'.get? c = some o ∧ H' c = none := fun c hm => by
    obtain ⟨v, ev⟩ := hc.mem c hm
    obtain ⟨_, ⟨o, eo⟩, _⟩ := (show ObjOk P w H h c (cellO c v) from ok c _ ev)
    refine ⟨v, o, ev, eo, u.keep c o eo (hideC_in hm) (fun z => ?_) (by simp), u.free c o eo (hideC_in hm) (by simp)⟩
    rw [hfs c z] at ev; cases ev
  have nin : ∀ b, H b = none → b ∉ cs := fun b e hb => by
    obtain ⟨v, ev⟩ := hc.mem b hb
    rw [e] at ev; cases ev
  have nin' : ∀ b o, H' b = some o → b ∉ cs := fun b o e hb => by
    obtain ⟨_, _, _, _, _, z⟩ := obj b hb
    rw [e] at z; cases z
  refine ⟨⟨fun b o e n hb hx => u.keep b o e (by rw [hideC_out (nin b n)]; exact n) hb hx, fun b o e n hb hx => u.slot b o e (by rw [hideC_out (nin b n)]; exact n) hb hx,
    fun b o e n hx => by rw [backC_out (nin b n)]; exact u.free b o e (by rw [hideC_out (nin b n)]; exact n) hx, u.there, fun b xs e => ?_, fun b o v e => ?_, fun b ps e => ?_⟩, fun b o e => ?_⟩
  · have hb := hc.notin e fun φ z => nomatch z
    rw [backC_out hb]; exact u.tups b xs (by rw [hideC_out hb]; exact e)
  · have hb := hc.notin e fun φ z => nomatch z
    rw [backC_out hb]; exact u.frzs b o v (by rw [hideC_out hb]; exact e)
  · have hb := hc.notin e fun φ z => nomatch z
    rw [backC_out hb]; exact u.tbls b ps (by rw [hideC_out hb]; exact e)
  · by_cases hb : b ∈ cs
    · rw [backC_in hb] at e
      obtain ⟨v, o', ev, e1, e2, _⟩ := obj b hb
      rw [e] at ev; cases ev
      obtain ⟨φ1, _, φ3⟩ := (show ObjOk P w H h b (cellO b v) from ok b _ e)
      exact ⟨φ3 h h' φ1 fun q hq => by rw [e1] at hq; cases hq; exact e2, ⟨o', e2⟩, φ3⟩
    · rw [backC_out hb] at e
      exact (ok' b o e).stay (fun c u _ q => q) (fun c q => by rw [backC_out (nin' c _ q)]; exact q) fun c xs q => by rw [backC_out (nin' c _ q)]; exact q
theorem CR.back {outer : List Env} {s s' : Shared} {Q : VK} {E : XK} {r : Result} (hc : CellsAt H cs cvs) (hfs : ∀ b ∈ frs outer, H b = none) (ok : HOk P w H s.heap)
    (h : CR (CX1 P w) outer P w (hideC cs H) s (fun v H' => Q v (backC cs H H')) (fun c a H' => E c a (backC cs H H')) r s') : CR (CX1 P w) outer P w H s Q E r s' := by
  cases r with
  | error e =>
    obtain ⟨a, C, H', rfl, F, q⟩ := h
    obtain ⟨u, k⟩ := back_ok hc hfs ok F.un F.hok
    have na : a ∉ cs := fun hb => by
      obtain ⟨v, ev⟩ := hc.mem a hb
      obtain ⟨_, ⟨o, eo⟩, _⟩ := (show ObjOk P w H s.heap a (cellO a v) from ok a _ ev)
      rw [F.new] at eo; cases eo
    obtain ⟨oe, vs, a0, T, oT, ts, t1, t2, t3, t4, t5, t6, t7, t8, t9, t10, t11⟩ := F.tr
    have nT : T ∉ cs := fun hb => by
      obtain ⟨v, ev⟩ := hc.mem T hb
      obtain ⟨_, ⟨o, eo⟩, _⟩ := (show ObjOk P w H s.heap T (cellO T v) from ok T _ ev)
      rw [t10] at eo; cases eo
    exact ⟨a, C, _, rfl, ⟨F.os, F.bare, u, k, F.new, by rw [backC_out na]; exact F.free, ⟨oe, vs, a0, T, oT, ts, t1, t2, t3, t4, t5, t6, t7, t8, t9, t10, by rw [backC_out nT]; exact t11⟩⟩, q⟩
  | ok fl =>
    cases fl with
    | ret u =>
      obtain ⟨v, H', os, bare, un, hok, rv, q⟩ := h
      obtain ⟨u', k⟩ := back_ok hc hfs ok un hok
      exact ⟨v, _, os, bare, u', k, rv, q⟩
    | next => exact False.elim h
    | brk => exact False.elim h
    | cont => exact False.elim h
end
structure CloOk (P : Program) (w : World) (K : PySem.W.Frag) (mg : Str → Option Value) (base : Heap) (k : Nat) (t : CloT) (sp : Sp) : Prop where
  run : ∀ (A : Around) (outer : List Env) (s : Shared) (H : Hp) (f : Addr) (cs : List Addr) (us : List Value) (vs cvs : List V) (Q : VK) (E : XK), Room k A → Env0 P w K mg base A outer s H → CloAt H f t cs cvs → Vals vs us → vs.length = t.ps.length →
    sp (vs ++ cvs) (hideC cs H) (fun v H' => Q v (backC cs H H')) (fun c a H' => E c a (backC cs H H')) → codeAny (model P w) A (.call (.ref f) ⟨us, []⟩) (CR (CX1 P w) outer P w H s Q E) s
structure CloScope (N ps ys : List Str) (sc : Scope) : Prop where
  kind : sc.kind = .function
  co : sc.isCoroutine = false
  gen : sc.isGenerator = false
  nd : N.Nodup
  pre : N.take ps.length = ps
  suf : N.drop (N.length - ys.length) = ys
  le : ps.length + ys.length ≤ N.length
  par : ∀ x ∈ ps, sc.names.lookup x = some .local
  nocell : ∀ x ∈ sc.names, x.2 ≠ .cell
  fr : ∀ x ∈ ys, sc.names.lookup x = some .free
  frs : ∀ y ∈ sc.names, y.2 = .free → y.1 ∈ ys
end L2
namespace L2
open PySem PySem.Spec PyProof.Rows
section
variable {P : Program} {w : World} {K : PySem.W.Frag} {mg : Str → Option Value} {base : Heap} {N ps ys : List Str} {qual : Str} {scope : Scope} {f c : Addr} {A : Around} {outer : List Env} {s : Shared} {H : Hp} {E : XK} {us : List Value} {vs cvs : List V} {cs : List Addr} {h1 : Heap} {tk : Nat}
end
section
variable {P : Program} {w : World} {K : PySem.W.Frag} {mg : Str → Option Value} {base : Heap} {k : Nat} {t : CloT} {N : List Str} {sp : Sp}
end
end L2
namespace L2
open PySem PySem.Spec PyProof.Rows
def BM (mg : Str → Option Value) (h : Heap) : Prop := ∃ bm ob, mg "__builtins__" = some (.ref bm) ∧ bm ≠ builtinsNs ∧ h.get? bm = some ob ∧ ob.cls = .type "module" ∧ ob.dict = some builtinsNs ∧ ob.data = .plain
section
variable {X : Cx} {pins : List (Addr × Obj)} {σ : St} {H : Hp} {s : Shared} {P c : Addr} {ps : Array Value} {t : CloT} {cs : List Addr} {h' : Heap} {tk : Nat} {fd : FuncData}
end
section
variable {X : Cx} {c0 P : Addr} {params : Arguments} {scope : Scope} {pos : Pos} {t : CloT} {cs : List Addr}
end
section
variable {X : Cx} {k : Nat} {E : St → XK} {x : Str} {p pos : Pos} {e : Expr} {es : List Expr} {ta : TE}
end
end L2
namespace L2
open PySem PySem.Spec PyProof.Rows
structure EndsM where
  nx : St → Hp → Prop
  rt : St → VK
abbrev TSM := EndsM → St → Hp → Prop
def SPM (X : Cx) (pins : List (Addr × Obj)) (D : EndsM) (f : Flow) (s' : Shared) : Prop :=
  match f with
  | .next => ∃ σ' H', Inv X pins σ' H' s' ∧ D.nx σ' H'
  | .ret u => ∃ v σ' H', Inv X pins σ' H' s' ∧ RelV v u ∧ D.rt σ' v H'
  | _ => False
structure QM (X : Cx) (st : Stmt) (t : TSM) : Prop where
  out : ∀ (pins : List (Addr × Obj)) (s : Shared) (σ : St) (H : Hp) (D : EndsM), Inv X pins σ H s → t D σ H → wpAny (model X.prog X.w) X.A (exec st X.env) (SPM X pins D) X.xe s
structure QMs (X : Cx) (st : List Stmt) (t : TSM) : Prop where
  out : ∀ (pins : List (Addr × Obj)) (s : Shared) (σ : St) (H : Hp) (D : EndsM), Inv X pins σ H s → t D σ H → wpAny (model X.prog X.w) X.A (execs st X.env) (SPM X pins D) X.xe s
section
variable {X : Cx} {st : Stmt} {sts l m : List Stmt} {t u : TSM} {tS : TS} {e c : Expr} {te : TE} {tc : TT} {pos : Pos}
end
end L2
namespace L2
open PySem PySem.Spec PyProof.Rows
theorem law_callT {P : Program} {w : World} {K : PySem.W.Frag} {mg mb : Str → Option Value} {CX : CXT} {k : Nat} {fa a : Addr} {fd : FuncData} {x : Str} {sp : Sp} {s₁ : Shared} {vs : List Value} {ns : List Int} {tabs : List (Addr × Addr)}
    (KX : K.In s₁.heap) (hns : s₁.heap.Ns mainGlobals mg) (hb : s₁.heap.Ns builtinsNs mb) (hbb : ∀ x : Str, x ≠ "__name__" → mb x = bootBuiltins x) (hlim : s₁.heap.NoLimit) (hg : s₁.gens = #[]) (hB : BM mg s₁.heap)
    (hT : ∀ q ∈ tabs, PySem.W.CodeHd s₁.heap q.1 q.2 ∧ s₁.heap.get? q.2 = some (PySem.W.tabObj #[])) (hKT : PySem.W.noTabs K = true)
    (ha : s₁.heap.get? a = some { cls := .type "list", data := .seq vs.toArray }) (hi : IntsAre vs ns) (hl : ns.length ≤ sizeLine) (hr : Room k callerA)
    (F : ∀ base : Heap, K.In base → base.Ns mainGlobals mg → BM mg base → (∀ q ∈ tabs, PySem.W.CodeHd base q.1 q.2) → FnOk P w K mg base CX k fa fd [x] sp) (hbind : ∀ (s : Shared) (u : Value), BindsTo s fd ⟨[u], []⟩ [(x, u)])
    (hsp : ∀ H : Hp, (∀ q ∈ tabs, H q.2 = some (.tbl #[])) → SqL K H a (ns.map V.int) → sp [.ref a] H (fun v _ => v = .bl true) fun _ _ _ => False)
    (hCX : ∀ H e s', CX [] H s₁ (fun _ _ _ => False) e s' → False) :
    codeAny (model P w) callerA (.call (.ref fa) ⟨[.ref a], []⟩) (fun r s' => r = .ok (.ret (.bool true)) ∧ OldK s₁.heap s'.heap ∧ s'.os = s₁.os ∧ AllBare s'.gens) s₁ := by
  have rv := vals_ints hi
  have lenV := hi.length
  have tabK : ∀ q ∈ tabs, K.lookup q.2 = none := fun q hq => by
    cases e : K.lookup q.2 with
    | none => rfl
    | some o =>
      have e2 := KX _ _ e
      rw [(hT q hq).2] at e2; cases e2
      have := List.all_eq_true.mp hKT _ (PySem.W.mem_of_lookupK e)
      exact absurd (show false = true from this) Bool.false_ne_true
  have tabA : ∀ q ∈ tabs, q.2 ≠ a := fun q hq e => by
    have e2 := (hT q hq).2
    rw [e, ha] at e2; cases e2
  have core : ∀ H : Hp, (∀ q ∈ tabs, H q.2 = some (.tbl #[])) → SqL K H a (ns.map V.int) → HOk P w H s₁.heap → (∀ b, H b ≠ none → (b = a ∧ ∃ o xs, H b = some (.frz o (.lst xs))) ∨ ∃ q ∈ tabs, q.2 = b) → (∀ b, H b ≠ none → K.lookup b = none) →
      codeAny (model P w) callerA (.call (.ref fa) ⟨[.ref a], []⟩) (fun r s' => r = .ok (.ret (.bool true)) ∧ OldK s₁.heap s'.heap ∧ s'.os = s₁.os ∧ AllBare s'.gens) s₁ := by
    intro H hO hS hok hA hK
    have base_of : ∀ {b : Addr} {o : Obj}, s₁.heap.get? b = some o → H b = none → (hidT s₁.heap H).get? b = some o := fun e n => hidT_get e n
    have noA : ∀ {b : Addr} {o : Obj}, s₁.heap.get? b = some o → o.cls ≠ .none → o.cls ≠ .type "list" → H b = none := fun {b o} e c1 c2 => by
      cases q : H b with
      | none => rfl
      | some u =>
        rcases hA b (by rw [q]; simp) with ⟨rfl, _⟩ | ⟨p, hp, rfl⟩
        · rw [ha] at e; cases e; exact absurd rfl c2
        · rw [(hT p hp).2] at e; cases e; exact absurd rfl c1
    have noD : ∀ {b : Addr} {o : Obj} {es : Array DictEntry} {ep : Nat}, s₁.heap.get? b = some o → o.data = .dict es ep → H b = none := fun {b o es ep} e d => by
      cases q : H b with
      | none => rfl
      | some u =>
        rcases hA b (by rw [q]; simp) with ⟨rfl, _⟩ | ⟨p, hp, rfl⟩
        · rw [ha] at e; cases e; cases d
        · rw [(hT p hp).2] at e; cases e; cases d
    have nsK : ∀ {b : Addr} {m : Str → Option Value}, s₁.heap.Ns b m → (hidT s₁.heap H).Ns b m := fun {b m} ⟨o, es, ep, e, d, r⟩ => ⟨o, es, ep, base_of e (noD e d), d, r⟩
    have hKb : K.In (hidT s₁.heap H) := fun b o e => base_of (KX b o e) (by
      cases q : H b with
      | none => rfl
      | some u => rw [hK b (by rw [q]; simp)] at e; cases e)
    have hBb : BM mg (hidT s₁.heap H) := by
      obtain ⟨bm, ob, b1, b2, b3, b4, b5, b6⟩ := hB
      exact ⟨bm, ob, b1, b2, base_of b3 (noA b3 (by rw [b4]; intro z; cases z) (by rw [b4]; intro z; exact absurd (Value.type.inj z) (by decide))), b4, b5, b6⟩
    have hCb : ∀ q ∈ tabs, PySem.W.CodeHd (hidT s₁.heap H) q.1 q.2 := fun q hq => by
      obtain ⟨o, vs, file, tf, flags, tg, inF, text, tt, e1, e2, r⟩ := (hT q hq).1
      exact ⟨o, vs, file, tf, flags, tg, inF, text, tt, base_of e1 (noA e1 (by rw [e2]; intro z; cases z) (by rw [e2]; intro z; exact absurd (Value.type.inj z) (by decide))), e2, r⟩
    have hM : Mod K mg (hidT s₁.heap H) := ⟨hKb, nsK hns, ⟨mb, nsK hb, hbb⟩, let ⟨mc, h1, h2⟩ := hlim; ⟨mc, nsK h1, h2⟩⟩
    have e0 : Env0 P w K mg (hidT s₁.heap H) callerA [] s₁ H := ⟨rfl, hM, fun b o e => of_hidT e, Nat.le_of_eq (hidT_size _ _), trivial, fun b hb => absurd (show b ∈ ([] : List Addr) from hb) (by simp), hok, .of_eq hg⟩
    refine codeAny_mono ((F _ hKb (nsK hns) hBb hCb).run callerA [] s₁ H ⟨[.ref a], []⟩ [.ref a] [.ref a] _ _ hr e0 (hbind s₁ (.ref a)) (.cons rfl .nil) (hsp H hO hS)) fun r s' h => ?_
    cases r with
    | error e => exact (hCX H e s' h).elim
    | ok fl =>
      cases fl with
      | next => exact False.elim h
      | brk => exact False.elim h
      | cont => exact False.elim h
      | ret u =>
        obtain ⟨v, H', os, bare, un, hok', r', q⟩ := h
        have q' : v = .bl true := q
        subst q'
        obtain rfl : u = Value.bool true := r'
        have all : ∀ b o, s₁.heap.get? b = some o → s'.heap.get? b = some o ∨ ∃ q ∈ tabs, q.2 = b ∧ ∃ more, s'.heap.get? b = some (PySem.W.tabObj more) := fun b o e => by
          cases q : H b with
          | none => exact .inl (un.keep b o e q (by intro z; exact absurd (show b ∈ ([] : List Addr) from z) (by simp)) (by simp))
          | some u =>
            rcases hA b (by rw [q]; simp) with ⟨rfl, ob, xs, z⟩ | ⟨p, hp, rfl⟩
            · have z2 := un.frzs b ob _ z
              obtain ⟨e1, _⟩ := hok b _ z
              obtain ⟨e2, _⟩ := hok' b _ z2
              rw [e] at e1; cases e1
              exact .inl e2
            · obtain ⟨more, z2⟩ := un.tbls p.2 _ (hO p hp)
              exact .inr ⟨p, hp, rfl, _, hok' p.2 _ z2⟩
        refine ⟨rfl, ⟨fun b o e => ?_, fun b o e => ?_⟩, os, bare⟩
        · rcases all b o e with z | ⟨p, hp, rfl, more, z⟩
          · exact .inl z
          · have e2 := (hT p hp).2
            rw [e] at e2; cases e2
            exact .inr (.inl ⟨((hT p hp).1.tab (hT p hp).2).isCodeTable, rfl, #[], more, rfl, by rw [Array.empty_append]; exact z⟩)
        · rcases all b o e with z | ⟨p, hp, rfl, more, z⟩
          · exact ⟨_, z⟩
          · exact ⟨_, z⟩
  cases hk : K.lookup a with
  | some o =>
    have e := KX a o hk
    rw [ha] at e
    cases e
    refine core (fun b => if b ∈ tabs.map (·.2) then some (.tbl #[]) else none) (fun q hq => if_pos (List.mem_map.mpr ⟨q, hq, rfl⟩)) (.inr ⟨_, vs.toArray, _, hk, rfl, rfl, rfl, by rw [List.size_toArray, lenV]; exact hl, by simpa using rv⟩) (fun b u z => ?_) (fun b z => ?_) fun b z => ?_
    · by_cases hb : b ∈ tabs.map (·.2)
      · have z' := (if_pos hb).symm.trans z
        cases z'
        obtain ⟨q, hq, rfl⟩ := List.mem_map.mp hb
        exact (hT q hq).2
      · have z' := (if_neg hb).symm.trans z
        cases z'
    · by_cases hb : b ∈ tabs.map (·.2)
      · obtain ⟨q, hq, e⟩ := List.mem_map.mp hb
        exact .inr ⟨q, hq, e⟩
      · exact absurd (if_neg hb) z
    · by_cases hb : b ∈ tabs.map (·.2)
      · obtain ⟨q, hq, rfl⟩ := List.mem_map.mp hb
        exact tabK q hq
      · exact absurd (if_neg hb) z
  | none =>
    refine core (fun b => if b = a then some (.frz { cls := .type "list", data := .seq vs.toArray } (.lst (ns.map V.int))) else if b ∈ tabs.map (·.2) then some (.tbl #[]) else none)
      (fun q hq => by show (if q.2 = a then _ else _) = _; rw [if_neg (tabA q hq), if_pos (List.mem_map.mpr ⟨q, hq, rfl⟩)]) (.inl (.inr ⟨{ cls := .type "list", data := .seq vs.toArray }, if_pos rfl⟩)) (fun b u z => ?_) (fun b z => ?_) fun b z => ?_
    · by_cases hb : b = a
      · have z' := (if_pos hb).symm.trans z
        cases z'
        subst hb
        exact ⟨ha, by rw [List.length_map]; exact hl, vs, _, rv, ha⟩
      · have z' : (if b ∈ tabs.map (·.2) then some (HO.tbl #[]) else none) = some u := (if_neg hb).symm.trans z
        by_cases hb2 : b ∈ tabs.map (·.2)
        · rw [if_pos hb2] at z'; cases z'
          obtain ⟨q, hq, rfl⟩ := List.mem_map.mp hb2
          exact (hT q hq).2
        · rw [if_neg hb2] at z'; cases z'
    · by_cases hb : b = a
      · exact .inl ⟨hb, _, _, if_pos hb⟩
      · by_cases hb2 : b ∈ tabs.map (·.2)
        · obtain ⟨q, hq, e⟩ := List.mem_map.mp hb2
          exact .inr ⟨q, hq, e⟩
        · exact absurd ((if_neg hb).trans (if_neg hb2)) z
    · by_cases hb : b = a
      · rw [hb]; exact hk
      · by_cases hb2 : b ∈ tabs.map (·.2)
        · obtain ⟨q, hq, rfl⟩ := List.mem_map.mp hb2
          exact tabK q hq
        · exact absurd ((if_neg hb).trans (if_neg hb2)) z
theorem walk_ofT {l : PySem.W.OpenLaw} {n k : Nat} {q : Program} {loose : List Str} {XP : (Str → Option Value) → Heap → Prop} {YP : World → Heap → Prop} {d : DefRec} {K : Params → PySem.W.Frag} {CX : World → CXT} {x : Str} {names : List Str}
    (hn : l.most = some n) (hn2 : n ≤ sizeLine) (hdf : d.params.defaults = []) (hr : Room k callerA)
    (hY : ∀ (w : World) (h : Heap), YP w h → (K w.params).In h)
    (hq : ∀ y ∈ names, ((PyProof.Rows.recsOf q).find? fun e => e.name == y).isSome = true)
    (F : ∀ (w : World) (mg : Str → Option Value) (fa : Addr) (h : Heap), (K w.params).In h → h.Ns mainGlobals mg → mg d.name = some (.ref fa) →
      ∃ (fd : FuncData) (tabs : List (Addr × Addr)) (sp : Sp), (∀ (s : Shared) (u : Value), BindsTo s fd ⟨[u], []⟩ [(x, u)]) ∧ PySem.W.noTabs (K w.params) = true ∧ (∀ t ∈ tabs, ∃ y ∈ names, PySem.W.tabIn (K w.params) y = some t) ∧
        (∀ base : Heap, (K w.params).In base → base.Ns mainGlobals mg → BM mg base → (∀ t ∈ tabs, PySem.W.CodeHd base t.1 t.2) → FnOk l.prog w (K w.params) mg base (CX w) k fa fd [x] sp) ∧
        ∀ (H : Hp) (a : Addr) (ns : List Int), ns.length ≤ n → (∀ t ∈ tabs, H t.2 = some (.tbl #[])) → SqL (K w.params) H a (ns.map V.int) → sp [.ref a] H (fun v _ => v = .bl true) fun _ _ _ => False)
    (hCX : ∀ (w : World) (H : Hp) (s : Shared) (e : Value) (s' : Shared), CX w [] H s (fun _ _ _ => False) e s' → False) :
    PySem.W.WalkO q loose XP YP l.row.toRowW d [] (fun f vs => PySem.call f vs) := by
  refine Att.attach_call hn hdf fun w s₀ s₁ mg mb fa o pm cd doc a vs ns G Y ho hd hcd hmg hobj hints hlen hg => ?_
  have KX := hY w _ Y
  obtain ⟨fd, tabs, sp, hb, hKT, htabs, hF, hsp⟩ := F w mg fa _ KX G.T.g hmg
  refine law_callT (tabs := tabs) KX G.T.g G.T.b G.T.builtins G.T.nolimit hg G.T.bmain (fun t ht => ?_) hKT hobj hints (Nat.le_trans hlen hn2) hr hF hb (fun H hO hS => hsp H a ns hlen hO hS) fun H e s' => hCX w H s₁ e s'
  obtain ⟨y, hy, e⟩ := htabs t ht
  obtain ⟨dd, hdd⟩ := Option.isSome_iff_exists.mp (hq y hy)
  exact PySem.W.tab_of G.T KX hdd e
end L2
namespace L2
open PySem PySem.Spec PyProof.Rows
section
variable {X : Cx}
theorem SPM.unwish {E : Value → Shared → Prop} {pins : List (Addr × Obj)} {D : EndsM} {f : Flow} {s' : Shared} (h : SPM (X.wish E) pins D f s') : SPM X pins D f s' := by
  cases f with
  | next => obtain ⟨σ', H', I, q⟩ := h; exact ⟨σ', H', I.unwish, q⟩
  | brk => exact h
  | cont => exact h
  | ret u => obtain ⟨v, σ', H', I, r, q⟩ := h; exact ⟨v, σ', H', I.unwish, r, q⟩
theorem QMs.nox {st : List Stmt} {t : TSM} (h : QMs X.nox st t) : QMs X st t := ⟨fun pins s σ H D I hw =>
  wpAny_mono (h.out pins s σ H D (I.wish _) hw) (fun _ _ q => SPM.unwish q) fun _ _ z => False.elim z⟩
theorem CloOk.mono {P : Program} {w : World} {K : PySem.W.Frag} {mg : Str → Option Value} {base : Heap} {j k : Nat} {t : CloT} {sp : Sp} (F : CloOk P w K mg base j t sp) (h : j ≤ k) : CloOk P w K mg base k t sp :=
  ⟨fun A outer s H f cs us vs cvs Q E hr => F.run A outer s H f cs us vs cvs Q E (hr.mono h)⟩
def Its (z : Str) : It := ⟨fun i _ => i < z.length, fun i H x H' => H' = H ∧ ∃ c, z.cps[i]? = some c ∧ x = .str ⟨#[c]⟩, fun i _ => z.length ≤ i⟩
theorem turn_str {P : Program} {w : World} {K : PySem.W.Frag} {tg : Expr} (z : Str) (t : Tok) (it : Addr) : Turn P w K tg (Its z) [it] it (fun i h => h.IsStrIter it "str_ascii_iterator" z t i) where
  mem := by simp
  obj := fun i h st b hb => by
    have e : b = it := by simpa using hb
    subst e
    obtain ⟨o, e, c, d⟩ := st
    exact ⟨o, e, fun v z => by rw [d] at z; cases z⟩
  keep := fun i h h' st k => let ⟨o, ho, r⟩ := st; ⟨o, k it (by simp) o ho, r⟩
  item := by
    intro X hP hw hK hc i pins s σ H E I hf st hg
    subst hP hw hK
    obtain ⟨f0, f1, f2, f3, f4, f5⟩ := hf it (by simp)
    have hi : i < z.cps.size := hg
    refine wpAny_pyNext_ascii_item st (c := z.cps[i]) (Array.getElem?_eq_getElem hi) fun h' st' sb => ?_
    have I1 : Inv X pins σ H { s with heap := h', toks := s.toks + 1 } := I.turned (t' := s.toks + 1) (fun b o hb e => (sb.2 b hb).trans e) f0 f1 f3 f4 f5
    obtain ⟨o, e, c, d⟩ := id st'
    exact ⟨_, rfl, go_of (s := { s with heap := h', toks := s.toks + 1 }) e c d (by decide) ⟨.str ⟨#[z.cps[i]]⟩, H, I1, ⟨_, rfl⟩, ⟨rfl, _, Array.getElem?_eq_getElem hi, rfl⟩, st', fun b hb => (hf b hb).1⟩⟩
  done := by
    intro X hP hw hK hc i pins s σ H E I hf st hg
    subst hP hw hK
    obtain ⟨f0, f1, f2, f3, f4, f5⟩ := hf it (by simp)
    exact wpAny_pyNext_ascii_end (I.ok.hd hc) st (Array.getElem?_eq_none (show z.cps.size ≤ i from hg)) fun h' eb => ⟨rfl, I.turned (t' := s.toks) (fun b o hb e => eb b o hb e) f0 f1 f3 f4 f5⟩
  self := fun A i s Q E st h => by
    refine wpAny_pyIter_slot st.typeIs F.slot_str_ascii_iterator_iter (wpAny_call_entry F.slot_str_ascii_iterator_iter st.typeIs F.entry_str_ascii_iterator_iter ?_ (F.args_str_ascii_iterator_iter_1 _))
    show wpAny _ _ (ret (.ref it)) _ _ s
    exact wpAny_pure ⟨_, rfl, "str_ascii_iterator", _, st.typeIs, F.slot_str_ascii_iterator_next.lookup, h⟩
variable {a : Expr} {ta : TE} {tg : Expr}
def iSeqA (K : PySem.W.Frag) (tl : TE) : TI := fun σ H R => tl σ H fun x H1 => match x with
  | .str z => z.cps.all (· < 128) = true ∧ R (Its z) H1
  | x => ∃ a, x = .ref a ∧ (((∃ xs, SqL K H1 a xs) ∧ R (Itl K a) H1) ∨ ((∃ xs, SqT K H1 a xs) ∧ R (Itt K a) H1))
theorem x_seqA (h : QE X a ta) : QI X tg a (iSeqA X.K ta) := ⟨fun pins s σ H R I hw => by
  refine thn (h.out pins s σ H _ I hw) fun v s1 ⟨x, H1, I1, r1, q1⟩ => ?_
  cases x with
  | str z =>
    obtain ⟨t, rfl⟩ := r1
    refine wpAny_pyIter_ascii q1.1 ?_
    refine ⟨s1.heap.objs.size, [s1.heap.objs.size], _, _, H1, rfl, I1.kept (t' := s1.toks) fun b o e => Heap.get?_push_of_some _ e, turn_str z t _, ⟨_, Heap.get?_push_size _ rfl, rfl, rfl⟩, fun b hb => ?_, q1.2⟩
    have e : b = s1.heap.objs.size := by simpa using hb
    subst e
    exact I1.fpOk (Nat.le_refl _) (I1.hok.fresh (Nat.le_refl _))
  | ref c =>
    obtain ⟨a, e, q⟩ := q1
    cases e
    cases r1
    rcases q with ⟨⟨xs, hq⟩, q⟩ | ⟨⟨xs, hq⟩, q⟩
    · obtain ⟨its, rv, p, hz⟩ := I1.list hq
      refine wpAny_pyIter_list (plain_is p) ?_
      refine ⟨s1.heap.objs.size, [s1.heap.objs.size], _, _, H1, rfl, I1.kept (t' := s1.toks) fun b o e => Heap.get?_push_of_some _ e, turn_list _ _, ⟨_, Heap.get?_push_size _ rfl, rfl, rfl⟩, fun b hb => ?_, q⟩
      have e : b = s1.heap.objs.size := by simpa using hb
      subst e
      exact I1.fpOk (Nat.le_refl _) (I1.hok.fresh (Nat.le_refl _))
    · obtain ⟨its, rv, p, hz⟩ := I1.tuple hq
      refine wpAny_pyIter_tuple (show s1.heap.IsTuple c its.toArray from p) ?_
      refine ⟨s1.heap.objs.size, [s1.heap.objs.size], _, _, H1, rfl, I1.kept (t' := s1.toks) fun b o e => Heap.get?_push_of_some _ e, turn_tuple _ _, ⟨_, Heap.get?_push_size _ rfl, rfl, rfl⟩, fun b hb => ?_, q⟩
      have e : b = s1.heap.objs.size := by simpa using hb
      subst e
      exact I1.fpOk (Nat.le_refl _) (I1.hok.fresh (Nat.le_refl _))
  | _ => obtain ⟨_, e, _⟩ := q1; cases e⟩
theorem op_mulS : OpR X (binaryOp .Mult) (fun x y H Q => ∃ z n, x = .str z ∧ y = .int n ∧ (-1000 ≤ n ∧ n ≤ 1000 ∧ z.length ≤ 1000) ∧ Q (.str (Txt.mul z n)) H) := by
  intro pins s σ H x y v u Q I rx ry h
  obtain ⟨z, n, rfl, rfl, ⟨h1, h2, h3⟩, q⟩ := h
  obtain ⟨t, rfl⟩ := rx
  obtain ⟨t', rfl⟩ := ry
  refine SB.mul ⟨?_, fun hn _ => ?_, fun hn _ => ?_⟩ fun t' k => ⟨.str _, H, I.tok k, ⟨_, rfl⟩, q⟩
  · rw [decide_eq_false (by omega), decide_eq_false (by omega)]; rfl
  · intro hgt
    have h5 : (1000 : Int) ≤ (2 ^ 63 - 1) / n := Int.le_ediv_of_mul_le (by omega) (by omega)
    omega
  · have h6 : z.length * n.toNat ≤ 1000 * 1000 := Nat.mul_le_mul h3 (by omega)
    exact decide_eq_false (by rw [sizeLine_eq]; omega)
end
end L2
namespace L2
open PySem PySem.Spec PyProof.Rows
theorem Items.str (z : Str) : Items (Its z) z.length (fun i => .str ⟨#[z.cps.getD i 0]⟩) (fun _ => True) where
  go := fun i H hi _ => hi
  yld := fun i H x H' hi _ y => ⟨y.1, by obtain ⟨_, c, hc, rfl⟩ := y; simp [Array.getD_eq_getD_getElem?, hc]⟩
  stop := fun H _ => Nat.le_refl _
theorem CloAt.keep {H H' : Hp} {f : Addr} {t : CloT} {cs : List Addr} {cvs : List V} (k : ∀ b φ, H b = some (.ext φ) → H' b = some (.ext φ)) (c : CloAt H f t cs cvs) : CloAt H' f t cs cvs := by
  obtain ⟨⟨a, h1, h2⟩, h3⟩ := c
  refine ⟨⟨a, k _ _ h1, k _ _ h2⟩, ?_⟩
  clear h1 h2
  induction h3 with
  | nil => exact .nil
  | cons r t ih => exact .cons (k _ _ r) ih
theorem tc1 {i : Nat} {σ : St} {x : V} {H : Hp} {R : List V → Hp → Prop} (e : σ[i]? = some (some x)) (h : R [x] H) : tCons (mVar i) tNil σ H R := by
  unfold tCons tNil mVar
  rw [e]; exact h
def tabsApart (K : PySem.W.Frag) (ns : List Str) : Bool := decide ((ns.map fun n => (PySem.W.tabIn K n).map (·.2)).Nodup)
theorem apart_of {l : List Addr} (h : (l.map some).Nodup) : l.Nodup := List.Pairwise.of_map some (fun a b h e => h (congrArg some e)) h
end L2
namespace HT
open PySem PyProof.Rows
theorem noFill_tuple_mul : fillsNumberSlot (.type "tuple") "mul" = pure false :=
  PySem.fillsNumberSlot_seq (id := "tuple.__mul__") (r := some (.builtin "tuple.__rmul__")) F.slot_tuple_mul.lookup (by decide +kernel) F.slot_tuple_rmul.lookup (by decide +kernel)
theorem repeat_tuple : seqRepeat? (.type "tuple") = pure (some (.builtin "tuple.__mul__")) := by
  unfold seqRepeat?
  rw [PySem.seqSlot_of (T := "tuple") (name := "__mul__") (id := "tuple.__mul__") F.slot_tuple_mul.lookup (by decide +kernel), PySem.seqSlot_of (T := "tuple") (name := "__rmul__") (id := "tuple.__rmul__") F.slot_tuple_rmul.lookup (by decide +kernel)]
  rfl
theorem int_rmul_tuple (a : Int) (t : Tok) (l : Addr) (items : Array Value) (n : Nat) (dd : Option Addr) (sl : Array (Option Value)) :
    Meets (Builtin.«int.__rmul__» ⟨[.int a t, .ref l], []⟩) (fun _ R s => s.heap.get? l = some { cls := .type "tuple", dict := dd, data := .seq items n, slots := sl } ∧ R (.ok (.ret Value.notImplemented)) s) :=
  .of_wp fun prog w A R s h => by obtain ⟨hp, g, d, tk, os⟩ := s; obtain ⟨hl, h⟩ := h; wp_walk; exact ⟨_, rfl, h⟩
theorem tuple_mul1 (l : Addr) (items : Array Value) (n : Nat) (x : Int) (u : Tok) (dd : Option Addr) (sl : Array (Option Value)) (h0 : (decide (x < -(2 ^ 63)) || decide (x ≥ 2 ^ 63)) = false) (h1 : (items.isEmpty || x == 1) = true) :
    Meets (Builtin.«tuple.__mul__» ⟨[.ref l, .int x u], []⟩) (fun _ R s => s.heap.get? l = some { cls := .type "tuple", dict := dd, data := .seq items n, slots := sl } ∧ R (.ok (.ret (.ref l))) s) :=
  .of_wp fun prog w A R s h => by obtain ⟨hp, g, d, tk, os⟩ := s; obtain ⟨hl, h⟩ := h; have f1 := AutoSeq1.idx_int; have f2 := AutoSeq1.sub_tuple_tuple; wp_walk using wpAny_loadPart' hl; refine wpAny_ite_false (decide_eq_false (by rw [h0]; decide)) ?_; wp_walk using wpAny_loadPart' hl; exact ⟨_, rfl, h⟩
theorem tuple_mulN (l : Addr) (items : Array Value) (n : Nat) (x : Int) (u : Tok) (dd : Option Addr) (sl : Array (Option Value)) (h0 : (decide (x < -(2 ^ 63)) || decide (x ≥ 2 ^ 63)) = false) (h1 : (items.isEmpty || x == 1) = false)
    (h2 : (decide (x ≤ 0) || items.isEmpty) = false) (h3 : ¬ ((items.size : Int) * x > (2 ^ 63 - 1) / 8)) (h4 : ¬ Builtin.Tuple.tupleTooMany (items.size * x) = true) (h5 : (List.foldl (fun x1 x2 => x1 ++ x2) #[] (List.replicate x.toNat items)).size ≤ sizeLine) :
    Meets (Builtin.«tuple.__mul__» ⟨[.ref l, .int x u], []⟩) (fun _ R s => s.heap.get? l = some { cls := .type "tuple", dict := dd, data := .seq items n, slots := sl } ∧ R (.ok (.ret (Value.ref s.heap.objs.size))) { s with heap := s.heap.push { cls := Value.type "tuple", data := Data.seq (List.foldl (fun x1 x2 => x1 ++ x2) #[] (List.replicate x.toNat items)) }, toks := s.toks }) :=
  .of_wp fun prog w A R s h => by obtain ⟨hp, g, d, tk, os⟩ := s; obtain ⟨hl, h⟩ := h; have f1 := AutoSeq1.idx_int; have f2 := AutoSeq1.sub_tuple_tuple; wp_walk using wpAny_loadPart' hl; refine wpAny_ite_false (decide_eq_false (by rw [h0]; decide)) ?_; wp_walk using wpAny_loadPart' hl; refine wpAny_ite_false (decide_eq_false h3) ?_; wp_walk using wpAny_loadPart' hl; exact ⟨_, rfl, h⟩
end HT
namespace L2
open PySem PySem.Spec PyProof.Rows
section
variable {X : Cx}
def rRepT : R2 := fun x y H Q => ∃ a k xs, x = .ref a ∧ y = .int k ∧ H a = some (.tup xs) ∧ xs ≠ [] ∧ 1 ≤ k ∧ k ≤ 1000 ∧ xs.length ≤ 1000 ∧ ∀ p H', Same H H' → H' p = some (.tup (List.replicate k.toNat xs).flatten) → Q (.ref p) H'
theorem op_repT : OpR X (binaryOp .Mult) rRepT := by
  intro pins s σ H x y v u Q I rx ry h
  obtain ⟨a, k, xs, rfl, rfl, ha, hne, k1, k2, hl, q⟩ := h
  cases rx
  obtain ⟨t, rfl⟩ := ry
  obtain ⟨its, r, p1, hz⟩ := I.tuple (.inl (.inl ha))
  have hlen : its.length = xs.length := r.length.symm
  have hits : its ≠ [] := fun z => hne (r.nil_iff.mp z)
  obtain ⟨⟨cls, dd, data, sl⟩, ho, hc, n, hd⟩ := id p1
  simp only at hc hd
  subst hc hd
  have h0 : (decide (k < -(2 ^ 63)) || decide (k ≥ 2 ^ 63)) = false := by rw [decide_eq_false (by omega), decide_eq_false (by omega)]; rfl
  have hemp : its.toArray.isEmpty = false := by cases its with | nil => exact (hits rfl).elim | cons _ _ => rfl
  by_cases e : k = 1
  · subst e
    refine PySem.wpAny_binaryOp_repeat_ref (T := "tuple") (U := "int") (by decide) ⟨_, ho, rfl⟩ (fun s' => typeIs_int s' 1 t) HT.noFill_tuple_mul F.fills_int_mul F.slot_int_rmul HT.repeat_tuple F.slot_int_index.lookup
      (call_meets F.slot_int_rmul (typeIs_int s 1 t) F.entry_int_rmul (F.args_int_rmul_2 _ _) (HT.int_rmul_tuple 1 t a its.toArray n dd sl)
        ⟨ho, rfl, ⟨_, ho, rfl⟩, call_meets F.slot_tuple_mul ⟨_, ho, rfl⟩ F.entry_tuple_mul (F.args_tuple_mul_2 _ _) (HT.tuple_mul1 a its.toArray n 1 t dd sl h0 (by rw [hemp]; rfl)) ⟨ho, ?_⟩⟩)
    exact ⟨.ref a, H, I, rfl, q a H Same.rfl' (by rw [ha]; simp)⟩
  · have hsz : its.length * k.toNat ≤ 1000000 := Nat.le_trans (Nat.mul_le_mul (by omega : its.length ≤ 1000) (by omega : k.toNat ≤ 1000)) (by decide)
    have hszI : ((its.toArray.size : Nat) : Int) * k ≤ 1000000 := by
      have e1 : ((its.length * k.toNat : Nat) : Int) = (its.length : Int) * k := by rw [Int.natCast_mul, Int.toNat_of_nonneg (by omega)]
      rw [List.size_toArray, ← e1]; omega
    have hnew : List.foldl (fun x1 x2 => x1 ++ x2) #[] (List.replicate k.toNat its.toArray) = (List.replicate k.toNat its).flatten.toArray := by
      have := foldl_rep its k.toNat []
      rw [List.nil_append] at this
      exact this
    refine PySem.wpAny_binaryOp_repeat_ref (T := "tuple") (U := "int") (by decide) ⟨_, ho, rfl⟩ (fun s' => typeIs_int s' k t) HT.noFill_tuple_mul F.fills_int_mul F.slot_int_rmul HT.repeat_tuple F.slot_int_index.lookup
      (call_meets F.slot_int_rmul (typeIs_int s k t) F.entry_int_rmul (F.args_int_rmul_2 _ _) (HT.int_rmul_tuple k t a its.toArray n dd sl)
        ⟨ho, rfl, ⟨_, ho, rfl⟩, call_meets F.slot_tuple_mul ⟨_, ho, rfl⟩ F.entry_tuple_mul (F.args_tuple_mul_2 _ _) (HT.tuple_mulN a its.toArray n k t dd sl h0 (by rw [hemp]; simp [e]) (by rw [hemp, decide_eq_false (by omega)]; rfl) (by omega) ?_ ?_) ⟨ho, ?_⟩⟩)
    · unfold Builtin.Tuple.tupleTooMany
      rw [sizeLine_eq]
      simp only [gt_iff_lt, decide_eq_true_eq]
      omega
    · rw [hnew, List.size_toArray, len_rep, Nat.mul_comm]
      exact line_ge hsz
    · rw [hnew]
      refine ⟨.ref s.heap.objs.size, _, I.laid (t' := s.toks) (o := .tup (List.replicate k.toNat xs).flatten) (fun b ob q => Heap.get?_push_of_some _ q) (Nat.le_refl _) ?_, rfl, q _ _ (Same.upd (I.hok.fresh (Nat.le_refl _))) upd_same⟩
      exact ⟨by rw [len_rep, ← hlen, Nat.mul_comm]; exact line_ge hsz, _, r.rep k.toNat, IsTup.new _ _⟩
def mMulB : R2 := fun x y H Q => match x, y with
  | .str z, .int n => (-1000 ≤ n ∧ n ≤ 1000 ∧ z.length ≤ 1000) ∧ Q (.str (Txt.mul z n)) H
  | .ref a, .int n => rRepT (.ref a) (.int n) H Q
  | x, y => mMul x y H Q
theorem oMulB : OpR X (binaryOp .Mult) mMulB := (op_mulS.or (op_repT.or oMul)).imp fun x y H Q q => by
  unfold mMulB at q
  split at q
  · exact .inl ⟨_, _, rfl, rfl, q.1, q.2⟩
  · exact .inr (.inl q)
  · exact .inr (.inr q)
end
end L2
namespace L2
open PySem PySem.Spec PyProof.Rows
end L2
namespace L2
open PySem PySem.Spec PyProof.Rows
section
variable {X : Cx}
theorem op_isB : OpR X (compareOp .Is) (fun x y H Q => ∃ b c, x = .bl b ∧ y = .bl c ∧ Q (.bl (decide (b = c))) H) := by
  intro pins s σ H x y v u Q I rx ry h
  obtain ⟨b, c, rfl, rfl, q⟩ := h
  cases rx
  cases ry
  refine wpAny_is_plain (by rfl) (fin_bl I q ?_)
  cases b <;> cases c <;> rfl
def mIsA : R2 := fun x y H Q => match x, y with
  | .bl b, .bl c => Q (.bl (decide (b = c))) H
  | x, y => mIsN x y H Q
theorem oIsA : OpR X (compareOp .Is) mIsA := (op_isB.or oIs).imp fun x y H Q q => by
  unfold mIsA at q
  split at q
  · exact .inl ⟨_, _, rfl, rfl, q⟩
  · exact .inr q
end
end L2
namespace HT
open PySem PyProof.Rows
theorem sub_tuple_dict : isSubtype (.type "tuple") (.type "dict") = pure false := by rw [isSubtype_type]; kernel_rfl
theorem sub_dict_tuple : isSubtype (.type "dict") (.type "tuple") = pure false := by rw [isSubtype_type]; kernel_rfl
theorem dict_eq_no (l b : Addr) (o : Obj) (hc : o.cls = .type "dict") (o2 : Obj) (hc2 : o2.cls = .type "tuple") :
    Meets (Builtin.«dict.__eq__» ⟨[.ref l, .ref b], []⟩) (fun _ R s => s.heap.get? l = some o ∧ s.heap.get? b = some o2 ∧ R (.ok (.ret .notImplemented)) s) :=
  .of_wp fun prog w A R s h => by
    obtain ⟨hp, g, d, tk, os⟩ := s; obtain ⟨hl, hb, h⟩ := h; obtain ⟨cls, dd, data, sl⟩ := o; obtain ⟨cls2, dd2, data2, sl2⟩ := o2
    simp only at hc hc2; subst hc hc2
    have f1 := sub_tuple_dict; wp_walk using wpAny_loadPart' hl, wpAny_loadPart' hb; exact ⟨_, rfl, h⟩
theorem tuple_eq_no (l b : Addr) (o : Obj) (hc : o.cls = .type "tuple") (o2 : Obj) (hc2 : o2.cls = .type "dict") :
    Meets (Builtin.«tuple.__eq__» ⟨[.ref l, .ref b], []⟩) (fun _ R s => s.heap.get? l = some o ∧ s.heap.get? b = some o2 ∧ R (.ok (.ret .notImplemented)) s) :=
  .of_wp fun prog w A R s h => by
    obtain ⟨hp, g, d, tk, os⟩ := s; obtain ⟨hl, hb, h⟩ := h; obtain ⟨cls, dd, data, sl⟩ := o; obtain ⟨cls2, dd2, data2, sl2⟩ := o2
    simp only at hc hc2; subst hc hc2
    have f1 := sub_dict_tuple; wp_walk using wpAny_loadPart' hl, wpAny_loadPart' hb; exact ⟨_, rfl, h⟩
end HT
namespace L2
open PySem PySem.Spec PyProof.Rows
section
variable {X : Cx}
def rEqDT (K : PySem.W.Frag) : R2 := fun x y H Q => ∃ a b ys, x = .ref a ∧ y = .ref b ∧ ((∃ kvs, H a = some (.dK kvs)) ∨ ∃ kvs, H a = some (.dT kvs)) ∧ SqT K H b ys ∧ Q (.bl false) H
theorem op_eqDT (hu : X.A.units < cLine) : OpR X (compareOp .Eq) (rEqDT X.K) := by
  intro pins s σ H x y v u Q I rx ry h
  obtain ⟨a, b, ys, rfl, rfl, ha, hb, q⟩ := h
  cases rx
  cases ry
  obtain ⟨its, _, p1, _⟩ := I.tuple hb
  obtain ⟨o2, ho2, hc2, _⟩ := id p1
  obtain ⟨o, ho, hc⟩ : ∃ o, s.heap.get? a = some o ∧ o.cls = .type "dict" := by
    rcases ha with ⟨kvs, e⟩ | ⟨kvs, e⟩
    · obtain ⟨_, _, _, _, o, _, _, h1, h2, _⟩ := (show ObjOk X.prog X.w H s.heap a (.dK kvs) from I.hok a _ e)
      exact ⟨o, h1, h2.1⟩
    · obtain ⟨_, _, _, _, o, _, _, h1, h2, _⟩ := (show ObjOk X.prog X.w H s.heap a (.dT kvs) from I.hok a _ e)
      exact ⟨o, h1, h2.1⟩
  have hne : a ≠ b := fun e => by
    subst e
    rw [ho] at ho2; cases ho2
    rw [hc] at hc2; exact absurd hc2 (by simp)
  show wpAny _ _ (richCompare .Eq (.ref a) (.ref b)) _ _ s
  exact SeqAt.rc_eq_decline_or (k := false) ⟨_, ho, hc⟩ ⟨_, ho2, hc2⟩ (by decide) F.sub_tuple_dict F.slot_dict_eq F.slot_tuple_eq_refl
    (fun _ hq => call_meets F.slot_dict_eq ⟨_, ho, hc⟩ F.entry_dict_eq (F.args_dict_eq_2 _ _) (HT.dict_eq_no a b o hc o2 hc2) ⟨ho, ho2, hq⟩)
    (fun _ hq => call_meets F.slot_tuple_eq_refl ⟨_, ho2, hc2⟩ F.entry_tuple_eq (F.args_tuple_eq_2 _ _) (HT.tuple_eq_no b a o2 hc2 o hc) ⟨ho2, ho, hq⟩)
    (fun _ hq => wpAny_isSame_ref_other hne ho ho2 (by rw [hc]; simp) hq) (.inr hu) ⟨.bl false, H, I, rfl, q⟩
def mEqC (K : PySem.W.Frag) : R2 := fun x y H Q => match x, y with
  | .ref a, .ref b => rEqT K (.ref a) (.ref b) H Q ∨ rEqD K (.ref a) (.ref b) H Q ∨ rEqDT K (.ref a) (.ref b) H Q
  | .ref a, y => rEqD K (.ref a) y H Q
  | x, .ref b => rEqD K x (.ref b) H Q
  | x, y => mEq x y H Q
theorem oEqC (hu : X.A.units + 150 < cLine) : OpR X (compareOp .Eq) (mEqC X.K) := ((op_eqT (by omega)).or ((op_eqD hu).or ((op_eqDT (by omega)).or oEq))).imp fun x y H Q q => by
  unfold mEqC at q
  split at q
  · exact q.elim .inl fun z => z.elim (fun z => .inr (.inl z)) fun z => .inr (.inr (.inl z))
  · exact .inr (.inl q)
  · exact .inr (.inl q)
  · exact .inr (.inr (.inr q))
end
end L2
namespace HT
open PySem PyProof.Rows
def revO (t : Addr) (i : Int) : Obj := { cls := .type "reversed", data := .fields #[.ref t, rawInt i] }
section
variable {prog : Program} {w : World} {A : Around} {E : Value → Shared → Prop} {s : Shared}
def IsRev (h : Heap) (a t : Addr) (i : Int) : Prop := h.get? a = some (revO t i)
theorem IsRev.typeIs {a t : Addr} {i : Int} (x : IsRev s.heap a t i) : s.TypeIs (.ref a) "reversed" := ⟨_, x, rfl⟩
end
end HT
namespace L2
open PySem PySem.Spec PyProof.Rows
section
variable {X : Cx} {a : Expr} {t : TA} {p pos : Pos} {tg : Expr}
def kMax : List V → Hp → VK → Prop := fun xs H Q => match xs with | [.int i, .int j] => Q (.int (if j > i then j else i)) H | _ => False
theorem cMax (hc : X.calm = true) : CallR X (.builtin "max") kMax := fun pins s σ H xs us Q I r q => by
  unfold kMax at q
  split at q
  · exact call_max2 hc pins s σ H _ us Q I r ⟨_, _, rfl, q⟩
  · exact q.elim
theorem op_fdivB : OpR X (binaryOp .FloorDiv) (rI (fun _ j => 0 < j ∧ j < 1267650600228229401496703205376) fun i j => .int (i / j)) := opI fun i j _ _ _ _ _ hc q => by
  have h1 : (0 : Int) < j := hc.1
  have h2 : j < 1267650600228229401496703205376 := hc.2
  have h3 : j.natAbs.log2 < 100 := (Nat.log2_lt (by omega)).mpr (Nat.lt_of_lt_of_eq (m := 1267650600228229401496703205376) (by omega) (by decide))
  exact floordiv_int (by omega) (by rw [Int.fdiv_eq_ediv_of_nonneg i (by omega)]; exact q) (.inl (PyProof.noPylong_of_log2 (by omega)))
def mFdivB : R2 := fun x y H Q => match x, y with | .int i, .int j => (0 < j ∧ j < 1267650600228229401496703205376) ∧ Q (.int (i / j)) H | _, _ => False
theorem oFdivB : OpR X (binaryOp .FloorDiv) mFdivB := op_fdivB.imp fun x y H Q q => by
  unfold mFdivB at q
  split at q
  · exact ⟨_, _, rfl, rfl, q.1, q.2⟩
  · exact q.elim
end
end L2
namespace L2
open PySem PySem.Spec PyProof.Rows
section
variable {X : Cx}
end
section
variable {α : Type} {l : List α}
theorem len0x (h : l.length = 0) : l = [] := List.length_eq_zero_iff.mp h
theorem len1x (h : l.length = 1) : ∃ a0, l = [a0] := by
  cases l with
  | nil => simp at h
  | cons a l =>
    obtain rfl := len0x (l := l) (by simpa using h)
    exact ⟨a, rfl⟩
theorem len2x (h : l.length = 2) : ∃ a0 a1, l = [a0, a1] := by
  cases l with
  | nil => simp at h
  | cons a l =>
    obtain ⟨b0, rfl⟩ := len1x (l := l) (by simpa using h)
    exact ⟨a, b0, rfl⟩
end
end L2
namespace L2
open PySem PySem.Spec PyProof.Rows
section
variable {X : Cx}
theorem vals_strV : ∀ l : List (Str × Tok), Vals ((l.map (·.1)).map V.str) (strValues l)
  | [] => .nil
  | p :: r => .cons ⟨p.2, rfl⟩ (vals_strV r)
def rSplit : V → List V → Hp → VK → Prop := fun x vs H Q => ∃ (z y : Str) (ws : List Str), x = .str z ∧ z.length + 2 ≤ sizeLine ∧ (y.length == 0) = false ∧
  ((vs = [.str y] ∧ ws = Txt.split z y) ∨ ∃ k : Int, vs = [.str y, .int k] ∧ (decide (k < -(2 ^ 63 : Int)) || decide (k ≥ 2 ^ 63)) = false ∧ ws = Txt.splitMax z y k) ∧
  ∀ p, H p = none → Q (.ref p) (upd H p (.lst (ws.map V.str)))
theorem split_laid {pins : List (Addr × Obj)} {s : Shared} {σ : St} {H : Hp} {Q : VK} {ws : List Str} (I : Inv X pins σ H s) (hl : ws.length ≤ sizeLine) (q : ∀ p, H p = none → Q (.ref p) (upd H p (.lst (ws.map V.str))))
    (l : List (Str × Tok)) (e : l.map (·.1) = ws) (t' : Nat) : EP X pins σ Q (.ref s.heap.objs.size) { s with heap := s.heap.push { cls := .type "list", data := .seq (strValues l).toArray }, toks := t' } := by
  subst e
  exact ⟨.ref s.heap.objs.size, _, I.laid (t' := t') (o := .lst ((l.map (·.1)).map V.str)) (fun b ob q => Heap.get?_push_of_some _ q) (Nat.le_refl _) ⟨by simpa using hl, _, 0, vals_strV l, Heap.get?_push_size _ rfl⟩, rfl, q _ (I.hok.fresh (Nat.le_refl _))⟩
theorem mt_split : MtR X "str.split" rSplit := by
  intro pins s σ H x vs v us Q I rx rv h
  obtain ⟨z, y, ws, rfl, hz, hy, hv, q⟩ := h
  obtain ⟨t, rfl⟩ := (show ∃ t, v = Value.str z t from rx)
  have hl1 : ∀ n, (Builtin.Str.partsBetween z (Builtin.Str.occurrences z y 0 z.length n) y.length).length ≤ sizeLine := fun n => by
    have e1 := StrLaws.occ_length_le_len z y 0 z.length n
    rw [length_partsBetween]; omega
  have h2 : 2 ≤ sizeLine := by rw [sizeLine_eq]; decide
  rcases hv with ⟨rfl, rfl⟩ | ⟨k, rfl, hk, rfl⟩
  · obtain ⟨u, rfl, ru⟩ := rv.one
    obtain ⟨tu, rfl⟩ := (show ∃ t, u = Value.str y t from ru)
    have hl : (Txt.split z y).length ≤ sizeLine := by
      unfold Txt.split
      split
      · simp only [List.length_singleton]; omega
      · split
        · simp only [List.length_singleton]; omega
        · exact hl1 _
    have ok := split_laid I hl q
    cases h1 : (decide (z.length < y.length) || decide (Builtin.Str.strKind z < Builtin.Str.strKind y))
    · cases hf : (Builtin.Str.occurrences z y 0 z.length (z.length + 1)).isEmpty
      · refine call_meets PySem.F.slot_str_split (typeIs_str _ _ _) PySem.F.entry_str_split (PySem.F.args_str_split_2 _ _) (meets_str_split_sep z y t tu h1 hy hf (by omega) (hl1 _)) ?_
        show wants (EP X pins σ Q) _ _ { s with toks := _, heap := s.heap.push { cls := .type "list", data := .seq (strsFrom s.toks (Builtin.Str.partsBetween z (Builtin.Str.occurrences z y 0 z.length (z.length + 1)) y.length)).toArray } }
        rw [strsFrom_eq]
        exact ok (numbered s.toks _) ((numbered_texts _ _).trans ((if_neg (ne_true_of_eq_false h1)).trans (if_neg (ne_true_of_eq_false hf))).symm) _
      · exact call_meets PySem.F.slot_str_split (typeIs_str _ _ _) PySem.F.entry_str_split (PySem.F.args_str_split_2 _ _) (meets_str_split_not_found z y t tu h1 hy hf)
          (ok [(z, t)] ((if_neg (ne_true_of_eq_false h1)).trans (if_pos hf)).symm s.toks)
    · exact call_meets PySem.F.slot_str_split (typeIs_str _ _ _) PySem.F.entry_str_split (PySem.F.args_str_split_2 _ _) (meets_str_split_cannot_occur z y t tu h1)
        (ok [(z, t)] (if_pos h1).symm s.toks)
  · obtain ⟨u, n, rfl, ru, rn⟩ := rv.two
    obtain ⟨tu, rfl⟩ := (show ∃ t, u = Value.str y t from ru)
    obtain ⟨tn, rfl⟩ := (show ∃ t, n = Value.int k t from rn)
    have hl : (Txt.splitMax z y k).length ≤ sizeLine := by
      unfold Txt.splitMax
      split
      · simp only [List.length_singleton]; omega
      · split
        · simp only [List.length_singleton]; omega
        · exact hl1 _
    have ok := split_laid I hl q
    cases h1 : (decide (z.length < y.length) || decide (Builtin.Str.strKind z < Builtin.Str.strKind y))
    · cases hf : (Builtin.Str.occurrences z y 0 z.length (limitOf z k)).isEmpty
      · refine call_meets PySem.F.slot_str_split (typeIs_str _ _ _) PySem.F.entry_str_split (PySem.F.args_str_split_3 _ _ _) (meets_str_split_sep_max z y k t tu tn hk h1 hy hf (by omega) (hl1 _)) ?_
        show wants (EP X pins σ Q) _ _ { s with toks := _, heap := s.heap.push { cls := .type "list", data := .seq (strsFrom s.toks (Builtin.Str.partsBetween z (Builtin.Str.occurrences z y 0 z.length (limitOf z k)) y.length)).toArray } }
        rw [strsFrom_eq]
        exact ok (numbered s.toks _) ((numbered_texts _ _).trans ((if_neg (ne_true_of_eq_false h1)).trans (if_neg (ne_true_of_eq_false hf))).symm) _
      · exact call_meets PySem.F.slot_str_split (typeIs_str _ _ _) PySem.F.entry_str_split (PySem.F.args_str_split_3 _ _ _) (meets_str_split_max_not_found z y k t tu tn hk h1 hy hf)
          (ok [(z, t)] ((if_neg (ne_true_of_eq_false h1)).trans (if_pos hf)).symm s.toks)
    · exact call_meets PySem.F.slot_str_split (typeIs_str _ _ _) PySem.F.entry_str_split (PySem.F.args_str_split_3 _ _ _) (meets_str_split_max_cannot_occur z y k t tu tn hk h1)
        (ok [(z, t)] (if_pos h1).symm s.toks)
def rPartn : V → List V → Hp → VK → Prop := fun x vs H Q => ∃ (z y : Str), x = .str z ∧ vs = [.str y] ∧ z.length ≤ sizeLine ∧ (y.length == 0) = false ∧
  ∀ p, H p = none → Q (.ref p) (upd H p (.tup [.str (Txt.partition z y).1, .str (Txt.partition z y).2.1, .str (Txt.partition z y).2.2]))
theorem mt_partn : MtR X "str.partition" rPartn := by
  intro pins s σ H x vs v us Q I rx rv h
  obtain ⟨z, y, rfl, rfl, hz, hy, q⟩ := h
  obtain ⟨t, rfl⟩ := (show ∃ t, v = Value.str z t from rx)
  obtain ⟨u, rfl, ru⟩ := rv.one
  obtain ⟨tu, rfl⟩ := (show ∃ t, u = Value.str y t from ru)
  have fr : H s.heap.objs.size = none := I.hok.fresh (Nat.le_refl _)
  have ok : ∀ (ta tb tc t' : Tok), EP X pins σ Q (.ref s.heap.objs.size) { s with heap := s.heap.push { cls := .type "tuple", data := .seq [.str (Txt.partition z y).1 ta, .str (Txt.partition z y).2.1 tb, .str (Txt.partition z y).2.2 tc].toArray }, toks := t' } := fun ta tb tc t' =>
    ⟨.ref s.heap.objs.size, _, I.laid (t' := t') (o := .tup [.str (Txt.partition z y).1, .str (Txt.partition z y).2.1, .str (Txt.partition z y).2.2]) (fun b ob q => Heap.get?_push_of_some _ q) (Nat.le_refl _)
      ⟨by show 3 ≤ sizeLine; rw [sizeLine_eq]; decide, _, .cons ⟨_, rfl⟩ (.cons ⟨_, rfl⟩ (.cons ⟨_, rfl⟩ .nil)), ⟨_, Heap.get?_push_size _ rfl, rfl, _, rfl⟩⟩, rfl, q _ fr⟩
  refine call_meets PySem.F.slot_str_partition (typeIs_str _ _ _) PySem.F.entry_str_partition (PySem.F.args_str_partition_2 _ _) (meets_str_partition z y t tu hy hz) ?_
  show wants (EP X pins σ Q) _ _ _
  unfold Txt.partition at ok
  cases ho : Builtin.Str.occurrences z y 0 z.length 1 with
  | nil => rw [ho] at ok; exact ok _ _ _ _
  | cons i r => rw [ho] at ok; exact ok _ _ _ _
abbrev TabK (K : PySem.W.Frag) (a : Addr) (D : List (Str × Int)) : Prop := KTD.tabLook (KTD.datLooks fun b => List.lookup b K) (fun b => List.lookup b K) a (D.map fun p => (p.1, KTD.Dat.flat (.int p.2))) = true
def valD (k : Str) : List (Str × Int) → Option Int
  | [] => none
  | (x, n) :: D => if k = x then some n else valD k D
theorem datumAt_D {k : Str} : ∀ {D : List (Str × Int)}, KTD.datumAt k (D.map fun p => (p.1, KTD.Dat.flat (.int p.2))) = (valD k D).map fun n => KTD.Dat.flat (.int n)
  | [] => rfl
  | (x, n) :: D => by
    show (if decide (k = x) = true then some (KTD.Dat.flat (.int n)) else KTD.datumAt k (D.map _)) = ((if k = x then some n else valD k D).map _)
    by_cases h : k = x
    · rw [if_pos (decide_eq_true h), if_pos h]; rfl
    · rw [if_neg (by simp [h]), if_neg h]; exact datumAt_D
theorem here_of {pins : List (Addr × Obj)} {s : Shared} {σ : St} {H : Hp} {a : Addr} {D : List (Str × Int)} (I : Inv X pins σ H s) (t : TabK X.K a D) : KTD.Here X.base s.heap a (D.map fun p => (p.1, KTD.Dat.flat (.int p.2))) :=
  ⟨KTD.text_of_look (fun b o e => I.mod.kin b o e) t, I.bk⟩
def rNotInK (K : PySem.W.Frag) : R2 := fun y x H Q => ∃ a k D, x = .ref a ∧ y = .str k ∧ TabK K a D ∧ Q (.bl (!(valD k D).isSome)) H
theorem op_notInK : OpR X (compareOp .NotIn) (rNotInK X.K) := by
  intro pins s σ H x y v u Q I rx ry h
  obtain ⟨a, k, D, rfl, rfl, t, q⟩ := h
  obtain rfl : u = Value.ref a := ry
  obtain ⟨tk, rfl⟩ := (show ∃ t, v = Value.str k t from rx)
  refine KTD.notin_text (here_of I t) ⟨.bl _, H, I.tok _, rfl, ?_⟩
  rw [← KTD.isSome_datumAt, datumAt_D, Option.isSome_map]
  exact q
theorem flat_int {n : Int} {v : Value} (h : PyProof.V.Flat v (.int n)) : RelV (.int n) v := h.int_inv
def rIxK (K : PySem.W.Frag) : R2 := fun x y H Q => ∃ a k D n, x = .ref a ∧ y = .str k ∧ TabK K a D ∧ valD k D = some n ∧ Q (.int n) H
theorem ix_K : IxR X (rIxK X.K) := by
  intro value slice pins s σ H x y v u Q I rx ry h hs
  obtain ⟨a, k, D, n, rfl, rfl, t, hn, q⟩ := h
  obtain rfl : v = Value.ref a := rx
  obtain ⟨tk, rfl⟩ := (show ∃ t, u = Value.str k t from ry)
  have T := here_of I t
  have hT := T.typeIs
  have hd : KTD.datumAt k (D.map fun p => (p.1, KTD.Dat.flat (.int p.2))) = some (KTD.Dat.flat (.int n)) := by rw [datumAt_D, hn]; rfl
  have h2 : wpAny (model X.prog X.w) X.A (getItem (.ref a) (.str k tk)) (EP X pins σ Q) X.xe s := by
    unfold getItem
    try with_reducible refine wpAny_holding ?_
    refine wpAny_bind (wpAny_sequenceKey T.typeIs (by decide) ?_)
    refine wpAny_bind (wpAny_callSpecial?_slot (name := Str.ofString "__getitem__") T.typeIs slot_dict_getitem
      (wpAny_call_entry slot_dict_getitem T.typeIs entry_dict_getitem ?_ (args_dict_getitem _ _)))
    show wpAny _ _ (dictGet a (.str k tk) >>= _) _ _ s
    have fi : ∀ d v, KTD.datumAt k (D.map fun p => (p.1, KTD.Dat.flat (.int p.2))) = some d → KTD.Dat.At X.base d v → EP X pins σ Q v { s with toks := s.toks + 1 } := fun d v ha hv => by
      rw [hd] at ha
      cases ha
      exact ⟨.int n, H, I.tok _, flat_int hv, q⟩
    exact wpAny_bind (KTD.dictGet_text T (fun d v ha hv => wpAny_pure ⟨v, rfl, wpAny_pure (fi d v ha hv)⟩) fun hn' => by rw [hd] at hn'; cases hn')
  unfold subscriptTail
  refine wpAny_bind ?_
  rw [getitemInPython_of_ne hT.not_modules]
  refine wpAny_bind (wpAny_specialOf hT PySem.F.slot_dict_getitem.lookup ?_)
  have fin : wpAny (model X.prog X.w) X.A (subscripted slice false (.ref a) (.str k tk)) (fun r s₃ => wpAny (model X.prog X.w) X.A (letTemporaryGo value (.ref a) r >>= fun _ => pure r) (EP X pins σ Q) X.xe s₃) X.xe s := by
    rw [hs]
    exact wpAny_operating (wpAny_mono h2 (fun r s₃ h₃ => wpAny_bind (wpAny_letTemporaryGo (wpAny_pure h₃))) fun _ _ x => x)
  first
    | exact wpAny_pure (wpAny_bind fin)
    | exact wpAny_bind (wpAny_pure (wpAny_bind fin))
    | exact wpAny_bind fin
def rGet2 : V → List V → Hp → VK → Prop := fun x vs H Q => ∃ a y d o, x = .ref a ∧ vs = [y, d] ∧ DGet H a y o ∧ Q (o.getD d) H
theorem mt_get2 (hu : X.A.units + 1 < cLine) : MtR X "dict.get" rGet2 := by
  intro pins s σ H x vs v us Q I rx rv h
  obtain ⟨a, y, d, o, rfl, rfl, g, q⟩ := h
  obtain rfl : v = Value.ref a := rx
  obtain ⟨uy, ud, rfl, ry, rd⟩ := rv.two
  exact d_get2 hu I g ry rd fun w' s' I' r' => ⟨_, H, I', r', q⟩
theorem KV.app {κ : Type} {a b : List (κ × V)} {c d : List (κ × Value)} (r : KV a c) (r' : KV b d) : KV (a ++ b) (c ++ d) := by
  unfold KV at r r' ⊢
  induction r with
  | nil => exact r'
  | cons h _ ih => exact .cons h ih
def rUpd : V → List V → Hp → VK → Prop := fun x vs H Q => ∃ a b kvs more, x = .ref a ∧ vs = [.ref b] ∧ a ≠ b ∧ H a = some (.dK kvs) ∧ H b = some (.dK more) ∧ kvs.length + more.length ≤ sizeLine ∧ ((kvs ++ more).map (·.1)).Nodup ∧
  Q .non (upd H a (.dK (kvs ++ more)))
theorem mt_upd : MtR X "dict.update" rUpd := by
  intro pins s σ H x vs v us Q I rx rv h
  obtain ⟨a, b, kvs, more, rfl, rfl, hne, ha, hb, hl, nd, q⟩ := h
  obtain rfl : v = Value.ref a := rx
  obtain ⟨u, rfl, ru⟩ := rv.one
  obtain rfl : u = Value.ref b := ru
  obtain ⟨za, hda, vs, rel, dd⟩ := dk_of I.hok ha
  obtain ⟨zb, hdb, ws, rel', dd'⟩ := dk_of I.hok hb
  refine call_meetsIn PySem.F.slot_dict_update dd.typeIs PySem.F.entry_dict_update (PySem.F.args_dict_update_2 _ _) (meets_dict_update (mixKind X.prog X.w) a b hne hdb)
    ⟨vs, ws, dd, dd', by rw [← rel.length, ← rel'.length]; exact hl, fun h' d1 _ hs => ?_⟩
  have nd' : ((vs ++ ws).map (·.1)).Nodup := by rw [← (rel.app rel').keys]; exact nd
  rw [merged_append_of_fresh vs ws nd'] at d1
  have he : ∃ q, h'.get? a = some q := let ⟨q, _, _, hq, _⟩ := d1; ⟨q, hq⟩
  exact ⟨.non, _, d_write (t' := s.toks) I (by rw [ha]; exact True.intro) hs he (dk_new (by rw [List.length_append]; exact hl) hda (rel.app rel') d1), rfl, q⟩
def strsAre : List Value → List Str → Bool
  | [], [] => true
  | .str z _ :: r, w :: ws => decide (z = w) && strsAre r ws
  | _, _ => false
def tupLook (K : PySem.W.Frag) (a : Addr) (ss : List Str) : Bool := match K.lookup a with
  | some o => (match o.cls with | .type n => decide (n = "tuple") | _ => false) && (match o.data with | .seq its _ => decide (its.size ≤ 1000) && strsAre its.toList ss | _ => false)
  | none => false
abbrev TupK (K : PySem.W.Frag) (a : Addr) (ss : List Str) : Prop := tupLook K a ss = true
theorem vals_are : ∀ {us : List Value} {ss : List Str}, strsAre us ss = true → Vals (ss.map V.str) us
  | [], [], _ => .nil
  | u :: r, [], h => by cases u <;> cases h
  | [], w :: ws, h => by cases h
  | u :: r, w :: ws, h => by
    cases u with
    | str z t =>
      have h : (decide (z = w) && strsAre r ws) = true := h
      rw [Bool.and_eq_true] at h
      have e := of_decide_eq_true h.1
      subst e
      exact .cons ⟨t, rfl⟩ (vals_are h.2)
    | _ => cases h
theorem TupK.sq {K : PySem.W.Frag} {a : Addr} {ss : List Str} (H : Hp) (h : TupK K a ss) : SqT K H a (ss.map V.str) := by
  unfold TupK tupLook at h
  cases ho : K.lookup a with
  | none => rw [ho] at h; cases h
  | some o =>
    rw [ho] at h
    dsimp only at h
    rw [Bool.and_eq_true] at h
    obtain ⟨h1, h2⟩ := h
    have hc : o.cls = .type "tuple" := by
      split at h1
      · rename_i n e; rw [e, of_decide_eq_true h1]
      · cases h1
    split at h2
    · rename_i its n e
      rw [Bool.and_eq_true] at h2
      exact .inr ⟨o, its, n, ho, hc, e, Nat.le_trans (of_decide_eq_true h2.1) (by rw [sizeLine_eq]; decide), vals_are h2.2⟩
    · cases h2
end
end L2
namespace L2
open PySem PySem.Spec PyProof.Rows
section
variable {M : Model} {A : Around} {E : Value → Shared → Prop} {s : Shared}
theorem noteFrame_frame {e : Value} {env env' : Env} (h : env.frame = env'.frame) : noteFrame e env = noteFrame e env' := by
  unfold noteFrame PySem.frameOf
  rw [h]
theorem leaves_anyW {base : Heap} {env : Env} {outer : List Env} {L e : Addr} {cls a0 fl : Value} {Q : Unit → Shared → Prop}
    (hfr : A.frames = some (env :: outer)) (hf : env.frame = some L) (kb : base.StaysIn s.heap) (hen : base.get? e = none) (hl : s.heap.FunFrames base (env :: outer)) (ht : s.heap.TracedAtW base e cls a0 fl)
    (hQ : ∀ h', Heap.FlyingW base outer e cls a0 h' → s.heap.UpToSlots h' → Q () { s with heap := h' }) : wpAny M A (leaving env (.ref e)) Q E s := by
  have ht0 := ht
  obtain ⟨oe, vs, T, oT, ts, he, ⟨hcls, h0⟩, hd, h1, hnT, hTe, hT, hdT, h3⟩ := ht
  unfold leaving noteFrame
  simp only [hf]
  refine wpAny_bind (wpAny_bind (wpAny_field he hd h1 ?_))
  rw [if_pos (show (Value.ref T != Value.none) = true from by simp)]
  refine wpAny_bind (wpAny_field hT hdT h3 ?_)
  by_cases hx : (fl == rawInt L) = true
  · rw [if_pos hx]
    refine wpAny_pure (wpAny_setFlight_noneW kb hl ht0 fun h' k1 k2 k3 k4 => ?_)
    obtain ⟨_, _, k2'⟩ := k2
    exact hQ h' ⟨k1, hen, k2', k3⟩ fun b o hb hn => ⟨o.slots, k4 b o hb hn⟩
  · rw [if_neg hx]
    subst hcls
    refine wpAny_bind (wpAny_setField hT hdT (Array.getElem?_eq_some_iff.mp h3).1 ?_)
    have other : ∀ b, b ≠ T → (s.heap.update T (Obj.mapFields (·.setIfInBounds 3 Value.none))).get? b = s.heap.get? b := fun b hb => Heap.get?_update_other _ _ (Ne.symm hb)
    have noRecord : ∀ b o, s.heap.get? b = some o → (∀ vs, o.data ≠ .fields vs) → b ≠ T := fun b o hb hnf q => by
      rw [q, hT] at hb; injection hb with hb; subst hb; exact hnf ts hdT
    refine wpAny_newEntryW hfr (hl.of_keeps fun b o hb hnf => ⟨o, (other b (noRecord b o hb hnf)).trans hb, rfl⟩) hf ((other e (Ne.symm hTe)).trans he)
      (fun b o hbo => (other b fun q => by rw [q, hnT] at hbo; cases hbo).trans (kb b o hbo)) hen hd (Array.getElem?_eq_some_iff.mp h1).1 h0
      fun h' ⟨x1, ⟨_, _, x2⟩, x3, x4⟩ => hQ h' ⟨x1, hen, x2, x3⟩ fun b o hb hnf => x4 b o ((other b (noRecord b o hb hnf)).trans hb) hnf
end
def RecAt (h : Heap) (C a T : Addr) (fl : Value) : Prop := ∃ (oe : Obj) (vs : Array Value) (a0 : Value) (oT : Obj) (ts : Array Value), h.get? a = some oe ∧ (oe.cls = .ref C ∧ vs[0]? = some a0) ∧ oe.data = .fields vs ∧ vs[1]? = some (.ref T) ∧ T ≠ a ∧ h.get? T = some oT ∧ oT.data = .fields ts ∧ ts[3]? = some fl
def PassL (X : Cx) (E : St → XK) : Prop := ∀ (pins : List (Addr × Obj)) (σ : St) (H' : Hp) (s' : Shared) (a T C : Addr) (fl fl0 : Value) (h1 : Heap), Inv X pins σ H' s' → X.s₀.heap.get? a = none → X.s₀.heap.get? T = none → H' a = none → H' T = none →
  RecAt s'.heap C a T fl0 → (∀ b o, s'.heap.get? b = some o → b ≠ T → h1.get? b = some o) → RecAt h1 C a T fl → E σ (.ref C) none H' → X.xe (.ref a) { s' with heap := h1 }
theorem passL_def {P : Program} {w : World} {K : PySem.W.Frag} {mg : Str → Option Value} {base : Heap} {N : List Str} {qual : Str} {scope : Scope} {f : Addr} {cd : Value} {A : Around} {outer : List Env} {s : Shared} {H : Hp} {E : XK} :
    PassL (cxOf (CX1 P w) P w K mg base N qual scope f cd A outer s H E) (fun _ => E) := by
  intro pins σ H' s' a T C fl fl0 h1 I na nT fa fT r0 k r hE
  generalize hX : cxOf (CX1 P w) P w K mg base N qual scope f cd A outer s H E = X at I na nT
  obtain ⟨oe0, vs0, _, oT0, ts0, he0, _, hd0, _, _, hT0, hdT0, _⟩ := r0
  obtain ⟨oe, vs, a0, oT, ts, he, hc, hd, h1', hne, hT, hdT, h3⟩ := r
  have stk := I.stack
  have stkF := I.stkFree
  have nf : ∀ b ∈ frs X.stack, ∀ o, s'.heap.get? b = some o → ∀ vs, o.data ≠ .fields vs := fun b hb o e vs z => by
    obtain ⟨_, o', ho, hd⟩ := stk.mem hb
    rw [e] at ho; cases ho
    exact hd vs z
  have nT' : ∀ b o, s'.heap.get? b = some o → (∀ vs, o.data ≠ .fields vs) → b ≠ T := fun b o e hn z => by
    rw [z, hT0] at e; cases e; exact hn _ hdT0
  have ff : s'.heap.FunFrames (flyB s'.heap X.stack a T) X.stack := funs_mono stk fun b hb => PySem.W.hideAll_none _ (by simp [hb])
  have ff1 : h1.FunFrames (flyB s'.heap X.stack a T) X.stack := ff.of_keeps fun b o hb hnf => ⟨o, k b o hb (nT' b o hb hnf), rfl⟩
  have kb : (flyB s'.heap X.stack a T).StaysIn h1 := fun b o e => by
    have e' := PySem.W.of_hideAll _ e
    refine k b o e' ?_
    rintro rfl
    have : (flyB s'.heap X.stack a b).get? b = none := PySem.W.hideAll_none _ (by simp)
    rw [this] at e; cases e
  have tr1 : h1.TracedAtW (flyB s'.heap X.stack a T) a (.ref C) a0 fl := ⟨oe, vs, T, oT, ts, he, hc, hd, h1', PySem.W.hideAll_none _ (by simp), hne, hT, hdT, h3⟩
  have eS : X.stack = X.env :: X.outer := by rw [← hX]; rfl
  have eF : X.env.frame = some X.env.locals := by rw [← hX]; rfl
  have eX : X.ex = [] := by rw [← hX]; rfl
  have eR : (cxOf (CX1 P w) P w K mg base N qual scope f cd A outer s H E).xe (.ref a) { s' with heap := h1 } = wpAny (model P w) X.A (leaving X.env (.ref a)) (fun _ s'' => CX1 P w X.outer X.H₀ X.s₀ E (.ref a) s'') (fun e' s'' => CX1 P w X.outer X.H₀ X.s₀ E e' s'') { s' with heap := h1 } := by rw [← hX]; rfl
  rw [hX] at eR
  rw [eR]
  have hfr := I.ok.frames
  rw [eS] at hfr ff1
  refine leaves_anyW hfr eF (base := flyB s'.heap X.stack a T) kb (PySem.W.hideAll_none _ (by simp)) (by rw [eS]; exact ff1) tr1 fun h' x1 up => ?_
  have up' : s'.heap.UpToSlots h' := fun b o e hn => up b o (k b o e (nT' b o e hn)) hn
  have kp : ∀ b o, s'.heap.get? b = some o → b ≠ a → b ≠ T → b ∉ frs X.stack → h'.get? b = some o := fun b o e h1 h2 h3 => x1.1 b o (PySem.W.hideAll_get _ e (by simp [h1, h2, h3]))
  have old : ∀ b o, X.s₀.heap.get? b = some o → b ≠ a ∧ b ≠ T := fun b o e => ⟨fun z => (by rw [z, na] at e; cases e), fun z => (by rw [z, nT] at e; cases e)⟩
  have oldF : ∀ b o, X.s₀.heap.get? b = some o → b ∉ X.fs → b ∉ frs X.stack := fun b o e hb z => by
    rcases List.mem_cons.mp (I.stkSub b z) with q | q
    · have : X.s₀.heap.get? X.env.locals = none := Heap.get?_none_of_le I.ok.above
      rw [q, this] at e; cases e
    · exact hb q
  have bs := I.base
  rw [eX] at bs
  have hP : X.prog = P ∧ X.w = w := by rw [← hX]; exact ⟨rfl, rfl⟩
  have hok := I.hok
  rw [hP.1, hP.2] at hok
  refine ⟨a, C, H', rfl, ⟨I.os, I.bare, ⟨fun b o e n hb hx => ?_, fun b o e n hb hx => ?_, bs.free, fun b o e hx => ?_, bs.tups, bs.frzs, bs.tbls⟩, fun b o e => ?_, na, fa, ?_⟩, hE⟩
  · exact kp b o (bs.keep b o e n hb hx) (old b o e).1 (old b o e).2 (oldF b o e hb)
  · obtain ⟨sl, e1⟩ := bs.slot b o e n hb hx
    have hb' : b ∈ frs X.stack := by rw [eS]; unfold frs; rw [List.filterMap_cons, eF]; exact List.mem_cons_of_mem _ hb
    obtain ⟨sl', e2⟩ := up' b _ e1 (nf b hb' _ e1)
    exact ⟨sl', e2⟩
  · obtain ⟨o', e1⟩ := bs.there b o e hx
    by_cases hb : b ∈ frs X.stack
    · obtain ⟨sl', e2⟩ := up' b _ e1 (nf b hb _ e1)
      exact ⟨_, e2⟩
    · exact ⟨o', kp b o' e1 (old b o e).1 (old b o e).2 hb⟩
  · refine (hok b o e).stay (fun c u hc q => kp c u q ?_ ?_ ?_) (fun _ q => q) fun _ _ q => q
    · rintro rfl
      rcases hc with r | r
      · rw [← r, fa] at e; cases e
      · rw [fa] at r; cases r
    · rintro rfl
      rcases hc with r | r
      · rw [← r, fT] at e; cases e
      · rw [fT] at r; cases r
    · intro hm
      rcases hc with r | r
      · rw [← r, stkF _ hm] at e; cases e
      · rw [stkF _ hm] at r; cases r
  · obtain ⟨oe, vs, T', oT', ts, he, hc, hd, h1, hn, hne, hT', hdT, h3⟩ := x1.2.2.2
    have key : s'.heap.get? T' = none ∨ T' = T := by
      cases q : s'.heap.get? T' with
      | none => exact .inl rfl
      | some o =>
        refine .inr (Classical.byContradiction fun hz => ?_)
        by_cases hf : T' ∈ frs X.stack
        · obtain ⟨sl', e2⟩ := up' T' o q (nf T' hf o q)
          rw [hT'] at e2; cases e2
          exact nf T' hf o q ts hdT
        · have : (flyB s'.heap X.stack a T).get? T' = some o := PySem.W.hideAll_get _ q (by simp [hz, hne, hf])
          rw [hn] at this; cases this
    refine ⟨oe, vs, a0, T', oT', ts, he, hc.1, hd, hc.2, h1, hne, hT', hdT, h3, ?_, ?_⟩
    · rcases key with z | z
      · cases q : X.s₀.heap.get? T' with
        | none => rfl
        | some o =>
          obtain ⟨o', e⟩ := bs.there T' o q (by simp)
          rw [z] at e; cases e
      · rw [z]; exact nT
    · rcases key with z | z
      · cases q : H' T' with
        | none => rfl
        | some o =>
          obtain ⟨o1, e1⟩ := obj_some (hok T' o q)
          rw [z] at e1; cases e1
      · rw [z]; exact fT

def cxCompE (X : Cx) (scope : Scope) (C : Addr) (N : List Str) (s : Shared) (H : Hp) (fp : List Addr) (Ec : Value → Shared → Prop) : Cx := { cxComp X scope C N s H fp with xe := Ec }
section
variable {X : Cx}
theorem Inv.ofE {scope : Scope} {C : Addr} {N : List Str} {s1 : Shared} {H1 : Hp} {fp : List Addr} {Ec : Value → Shared → Prop} {pins : List (Addr × Obj)} {σ : St} {H : Hp} {s : Shared} (I : Inv (cxCompE X scope C N s1 H1 fp Ec) pins σ H s) : Inv (cxComp X scope C N s1 H1 fp) pins σ H s :=
  ⟨⟨I.ok.mod, I.ok.kind, I.ok.glob, I.ok.blt, I.ok.above, I.ok.inj, I.ok.has, I.ok.cab, I.ok.hd, I.ok.frames, I.ok.stk, I.ok.exf, I.ok.bs, I.ok.bsz, I.ok.noex, I.ok.exfs, I.ok.funs, I.ok.frf⟩, I.os, I.bare, I.base, I.loc, I.cell, I.free, I.freeC, I.pin, I.hok, I.len⟩
theorem comp_coreE {elt iter : Expr} {x : Str} {px pos : Pos} {scope : Scope} {ys : List Str} {is : List Nat} {te : (St → XK) → TE} {E' : XK} {pins : List (Addr × Obj)} {σ : St} {H2 : Hp} {s2 : Shared} {it : Addr} {fp : List Addr} {tn : Nat → Heap → Prop} {J : It} {E : Value → Shared → Prop} {Q : VK} {RR : Value → Addr → Result → Shared → Prop}
    (hc : X.calm = true) (S : CompScope scope x ys) (hcap : Caps X scope ys is)
    (e1 : X.stack = X.env :: X.outer) (e2 : X.env.frame = some X.env.locals) (hex : X.ex = [])
    (he : ∀ C s H fp Ec EH, PassS (CX1 X.prog X.w) (cxCompE X scope C (x :: ys) s H fp Ec) EH → PE (cxCompE X scope C (x :: ys) s H fp Ec) elt (te EH))
    (I2 : Inv X pins σ H2 s2) (T : Turn X.prog X.w X.K (.Name x px) J fp it tn) (st2 : tn 0 s2.heap) (f2 : ∀ b ∈ fp, FpOk X pins H2 b)
    (hW : ∀ D, H2 D = none → ∃ W : Nat → Nat → List V → Hp → Prop, (∃ m, W 0 m [] (upd H2 D (.lst []))) ∧
      ∀ i m ys H2, W i m ys H2 → (J.stop i H2 ∧ Q (.ref D) H2) ∨ (J.go i H2 ∧ ∀ x H3, J.yld i H2 x H3 → te (fun _ => E') (some x :: capSt σ is) H3 fun y H5 => H5 D = some (.lst ys) ∧ ys.length < sizeLine ∧ ∃ m', m' < m ∧ W (i + 1) m' (ys ++ [y]) (upd H5 D (.lst (ys ++ [y])))))
    (hRR : ∀ D C H' s', (X.s₀.heap.objs.size ≤ C ∧ ∀ p ∈ X.pn ++ pins, p.1 ≠ C) → (∃ m, s'.heap.Ns C m) → C ≠ X.env.locals → H' C = none → Inv X pins σ H' s' → (∀ h', Heap.SameBut C s'.heap h' → Inv X pins σ H' { s' with heap := h' }) → Q (.ref D) H' → RR (.ref D) C (.ok .next) s')
    (hRE : ∀ D C H' s' a T Ce fl, (∃ m, s'.heap.Ns C m) → (∀ h', Heap.SameBut C s'.heap h' → Inv X pins σ H' { s' with heap := h' }) → X.s₀.heap.get? a = none → X.s₀.heap.get? T = none → H' a = none → H' T = none → RecAt s'.heap Ce a T fl → E' (.ref Ce) none H' → RR (.ref D) C (.error (.ref a)) s') :
    wpAny (model X.prog X.w) X.A (newList []) (fun acc s₃ => wpAny (model X.prog X.w) X.A (newFunctionEnv scope X.env.globals (closL scope.names X.env.cells []) [] X.env.qual none .none (some X.env)) (fun cenv s₄ =>
      codeAny (model X.prog X.w) X.A (.compStart (.ListComp elt [⟨.Name x px, iter, [], 0⟩] scope pos) 0 (.ref it) acc { cenv with scope := relabel scope X.env }) (RR acc cenv.locals) s₄) E s₃) E s2 := by
  have hf2 : H2 s2.heap.objs.size = none := I2.fresh
  refine wpAny_newObj_type (wpAny_newFunctionEnv S.nocell (by intro y hy; simp at hy) (fun h₁ hns₁ hsb₁ => ?_) S.kind)
  dsimp only at hns₁ hsb₁ ⊢
  -- the state with the new list
  have I3 : Inv X pins σ (upd H2 s2.heap.objs.size (.lst [])) { s2 with heap := s2.heap.push { cls := .type "list", data := .seq ([] : List Value).toArray } } := I2.lnew (t' := s2.toks) (ys := []) .nil (Nat.zero_le _)
  obtain ⟨W, ⟨m0, w0⟩, turn⟩ := hW _ hf2
  generalize hD : s2.heap.objs.size = D at I3 w0 turn hf2 ⊢
  generalize hs3 : ({ s2 with heap := s2.heap.push { cls := .type "list", data := .seq ([] : List Value).toArray } } : Shared) = s3 at I3
  have hp3 : s2.heap.push { cls := .type "list", dict := none, data := .seq ([] : List Value).toArray } = s3.heap := by rw [← hs3]
  rw [hp3] at hns₁ hsb₁ ⊢
  have tk3 : s2.toks = s3.toks := by rw [← hs3]
  generalize hH3 : upd H2 D (.lst []) = H3 at I3 w0
  generalize hC : s3.heap.objs.size = C at hns₁ hsb₁ ⊢
  have keep2 : ∀ b o, s2.heap.get? b = some o → s3.heap.get? b = some o := fun b o e => by rw [← hp3]; exact Heap.get?_push_of_some _ e
  have keep3 : ∀ b o, s3.heap.get? b = some o → h₁.get? b = some o := fun b o e => hsb₁.extBut b o (by rw [← hC]; exact Nat.ne_of_lt (Heap.lt_size e)) (Heap.get?_push_of_some _ e)
  have st3 : tn 0 s3.heap := T.keep _ _ _ st2 fun b _ o e => keep2 b o e
  have st4 : tn 0 h₁ := T.keep _ _ _ st3 fun b _ o e => keep3 b o e
  have fp3 : ∀ b ∈ fp, H3 b = none ∧ b < C := fun b hb => by
    obtain ⟨o, e, _⟩ := T.obj _ _ st2 b hb
    refine ⟨?_, by rw [← hC]; exact Heap.lt_size (keep2 b o e)⟩
    rw [← hH3, upd_ne (by rw [← hD]; exact Nat.ne_of_lt (Heap.lt_size e))]
    exact (f2 b hb).1
  have hcells : ∀ {z : Str} {c : Addr}, (closL scope.names X.env.cells []).lookup z = some c → X.env.cells.lookup z = some c := fun h => closL_sub (fun _ _ q => by cases q) h
  obtain ⟨Ec, hEc⟩ : ∃ Ec : Value → Shared → Prop, Ec = fun e s1 => ∃ (pins1 : List (Addr × Obj)) (σ1 : St) (H1 : Hp) (s0 : Shared) (Ce a : Addr) (H' : Hp), e = .ref a ∧ Inv (cxComp X scope C (x :: ys) s3 H3 fp) pins1 σ1 H1 s0 ∧ Fly X.prog X.w X.stack H1 s0 (.ref Ce) .none a H' s1 ∧ E' (.ref Ce) none H' := ⟨_, rfl⟩
  have hX : (cxCompE X scope C (x :: ys) s3 H3 fp Ec).Ok := by
    refine ⟨I3.ok.mod, S.kind, I3.ok.glob, I3.ok.blt, Nat.le_of_eq hC, fun y z c h1 h2 => I3.ok.inj y z c (hcells h1) (hcells h2), fun y hy => ?_, fun y c h _ => absurd (show false = true from h) Bool.false_ne_true, I3.ok.hd, I3.ok.frames, .inl rfl, fun b hb => ⟨Nat.ne_of_lt (fp3 b hb).2, fun y c h => (f2 b hb).2.2.2.2.1 y c (hcells h)⟩, fun b o e => I3.bs b o e, Nat.le_trans I3.ok.bsz I3.sz, fun b o e hb => ?_, fun b hb z => ?_, I3.stack, I3.stkFree⟩
    · have hy : (relabel scope X.env).names.lookup y = some .cell ∨ (relabel scope X.env).names.lookup y = some .free := hy
      have hm : (y, NameKind.free) ∈ scope.names := by
        rcases hy with q | q
        · exact relabel_lookup S.nocell q (.inl rfl)
        · exact relabel_lookup S.nocell q (.inr rfl)
      have hs : ∃ c, X.env.cells.lookup y = some c := by
        by_cases hk : X.env.kindOf y = some .cell ∨ X.env.kindOf y = some .free
        · exact I3.ok.has y hk
        · exact absurd (caps_kind hcap (S.all _ hm rfl)) hk
      exact Option.isSome_iff_exists.mp (closL_has hm (Option.isSome_iff_exists.mpr hs))
    · rcases (f2 b hb).2.2.2.1 with z | z
      · exact I3.ok.noex b o e z
      · exact absurd (Nat.lt_of_lt_of_le (Heap.lt_size e) (Nat.le_trans I3.ok.bsz z)) (Nat.lt_irrefl _)
    · rcases List.mem_cons.mp (I3.stkSub b z) with q | q
      · exact (f2 b hb).2.1 q
      · exact (f2 b hb).2.2.1 q
  -- the block's state at its start
  have I4 : Inv (cxCompE X scope C (x :: ys) s3 H3 fp Ec) [] (none :: capSt σ is) H3 { s2 with heap := h₁, toks := s2.toks + ([] : List (Str × Value)).length } := by
    obtain ⟨m3, hm3, hl3⟩ := id I3.loc
    refine ⟨hX, ?_, ?_, Un.kept keep3, ⟨_, hns₁, fun i y v e1 e2 e3 => ?_⟩, fun y c e => ?_, ?_, fun y c e => I3.freeC y c (hcells e), fun p hp => absurd (show p ∈ ([] : List (Addr × Obj)) from hp) (by simp), I3.hok.kept keep3, ?_⟩
    · show s2.os = s3.os
      rw [← hs3]
    · have := I2.bare; exact this
    · cases i with
      | zero => simp at e2
      | succ j =>
        obtain ⟨u, r, hfr, c, ec, ic⟩ := caps_look hcap hl3 trivial j y v (by have e1' : (x :: ys)[j + 1]? = some y := e1; simpa using e1') (by simpa using e2)
        have hk := relabel_free (env := X.env) hfr
        obtain ⟨c', ec'⟩ := Option.isSome_iff_exists.mp (closL_has (cs := []) (mem_lookup hfr) (by rw [ec]; rfl) (cells := X.env.cells))
        have : c' = c := by have := hcells ec'; rw [ec] at this; exact (Option.some.inj this).symm
        subst this
        obtain ⟨o, ho, hd⟩ := ic
        exact ⟨u, r, .inr ⟨hk, c', ec', o, keep3 _ _ ho, hd⟩⟩
    · obtain ⟨v, o, ho, hd⟩ := I3.cell y c (hcells e)
      exact ⟨v, o, keep3 _ _ ho, hd⟩
    · have := I3.hok.fresh (a := C) (Nat.le_of_eq hC)
      exact this
    · have := caps_len hcap
      show (none :: capSt σ is).length = (x :: ys).length
      simp [capSt, this]
  have lenσ : ∀ v : Option V, (v :: capSt σ is).set 0 = fun w => w :: capSt σ is := fun v => rfl
  have hown : (relabel scope X.env).names.lookup x = some .local := relabel_local S.own
  have hCL : C ≠ X.env.locals := Ne.symm (by rw [← hC]; exact Nat.ne_of_lt I3.lt)
  have backI : ∀ {H' : Hp} {pins1 : List (Addr × Obj)} {σ1 : St} {s' : Shared}, Inv (cxComp X scope C (x :: ys) s3 H3 fp) pins1 σ1 H' s' → ∀ h', Heap.SameBut C s'.heap h' → Inv X pins σ H' { s' with heap := h' } := fun {H' pins1 σ1 s'} J h' hs' => by
      have os' : s'.os = s3.os := J.os
      refine I3.call' (s' := { s' with heap := h' }) (ch := fp) os' ⟨fun b o e n hb hx => ?_, fun b o e n hb hx => ?_, fun b o e n hx => J.base.free b o e n hx, fun b o e hx => ?_, J.base.tups, J.base.frzs, J.base.tbls⟩ (fun b o e => ?_) J.bare fun b hb => ?_
      · exact hs'.extBut b o (by rw [← hC]; exact Nat.ne_of_lt (Heap.lt_size e)) (J.base.keep b o e n hb hx)
      · obtain ⟨sl, e1⟩ := J.base.slot b o e n hb hx
        exact ⟨sl, hs'.extBut b _ (by rw [← hC]; exact Nat.ne_of_lt (Heap.lt_size e)) e1⟩
      · obtain ⟨o', e1⟩ := J.base.there b o e hx
        exact ⟨o', hs'.extBut b _ (by rw [← hC]; exact Nat.ne_of_lt (Heap.lt_size e)) e1⟩
      · refine (J.hok b o e).stay (fun c w' hc q => (hs'.2 c ?_).trans q) (fun _ q => q) fun _ _ q => q
        have fC : H' C = none := J.free
        rintro rfl
        rcases hc with rfl | hc
        · rw [fC] at e; cases e
        · rw [fC] at hc; cases hc
      · obtain ⟨_, a1, _, a2, a3, a4⟩ := f2 b hb
        exact ⟨a2, a1, a3, a4⟩
  have newOld : ∀ {pins1 : List (Addr × Obj)} {σ1 : St} {H1 : Hp} {s0 : Shared}, Inv (cxComp X scope C (x :: ys) s3 H3 fp) pins1 σ1 H1 s0 → ∀ b, s0.heap.get? b = none → X.s₀.heap.get? b = none := fun {pins1 σ1 H1 s0} J b hb => by
    cases q : X.s₀.heap.get? b with
    | none => rfl
    | some o =>
      obtain ⟨o', e⟩ := I3.base.there b o q (by rw [hex]; simp)
      by_cases hf : b ∈ fp
      · rcases (f2 b hf).2.2.2.1 with z | z
        · rw [hex] at z; cases z
        · rw [Heap.get?_none_of_le z] at q; cases q
      · obtain ⟨o2, e2⟩ := J.base.there b o' e hf
        rw [hb] at e2; cases e2
  have noted : ∀ e s1, Ec e s1 → notedBy (model X.prog X.w) X.A (compEnvC scope (closL scope.names X.env.cells []) C X.env) (fun e s' => RR (.ref D) C (.error e) s') e s1 := by
    intro e s1 q
    rw [hEc] at q
    obtain ⟨pins1, σ1, H1, s0, Ce, a, H', rfl, J0, F, hE⟩ := q
    have F' : Fly (cxComp X scope C (x :: ys) s3 H3 fp).prog (cxComp X scope C (x :: ys) s3 H3 fp).w (cxComp X scope C (x :: ys) s3 H3 fp).stack H1 s0 (.ref Ce) .none a H' s1 := F
    obtain ⟨T, a0, hT0, hT1, hfl⟩ := F'.flying J0
    have eS : (cxComp X scope C (x :: ys) s3 H3 fp).stack = X.env :: X.outer := e1
    have hfr := J0.ok.frames
    have hfl' := hfl
    rw [eS] at hfr hfl'
    unfold notedBy
    rw [noteFrame_frame (env := compEnvC scope (closL scope.names X.env.cells []) C X.env) (env' := X.env) rfl]
    refine wpAny_looks_onW hfr e2 hfl' fun h' x1 up1 => ?_
    have st : (flyB s1.heap (cxComp X scope C (x :: ys) s3 H3 fp).stack a T).StaysIn h' := by rw [eS]; exact x1.1
    have tr : h'.TracedAtW (flyB s1.heap (cxComp X scope C (x :: ys) s3 H3 fp).stack a T) a (.ref Ce) a0 (rawInt X.env.locals) := by rw [eS]; exact x1.2.2.2
    have F2 := F'.moved (oT := { cls := .none, data := .dict #[] }) J0.stack J0.stkFree (F'.inv J0).stkFree hT0 hT1 st up1 tr
    have J2 := F2.inv J0
    obtain ⟨oe, vs, a1, T2, oT2, ts, r1, r2, r3, r4, r5, r6, r7, r8, r9, r10, r11⟩ := F2.tr
    obtain ⟨m2, hm2, _⟩ := J2.loc
    exact hRE D C H' { s1 with heap := h' } a T2 Ce _ ⟨m2, hm2⟩ (fun h3 hs3 => backI J2 h3 hs3) (newOld J0 a F2.new) (newOld J0 T2 r10) F2.free r11 ⟨oe, vs, a1, oT2, ts, r1, ⟨r2, r4⟩, r3, r5, r6, r7, r8, r9⟩ hE
  have pass : PassS (CX1 X.prog X.w) (cxCompE X scope C (x :: ys) s3 H3 fp Ec) (fun _ => E') := by
    intro pins1 σ1 H1 s0 e s1 I1 hx
    obtain ⟨a, Ce, H', rfl, F, hE⟩ := hx
    show Ec (.ref a) s1
    rw [hEc]
    exact ⟨pins1, σ1, H1, s0, Ce, a, H', rfl, I1.ofE, F, hE⟩
  -- the loop
  have loop : codeAny (model X.prog X.w) X.A (.compLoop (.ListComp elt [⟨.Name x px, iter, [], 0⟩] scope pos) 0 (.ref it) (.ref D) (compEnvC scope (closL scope.names X.env.cells []) C X.env)) (RR (.ref D) C)
      { s2 with heap := h₁, toks := s2.toks + ([] : List (Str × Value)).length } := by
    have fin : ∀ {H' : Hp} {v : Option V} {s' : Shared}, Inv (cxCompE X scope C (x :: ys) s3 H3 fp Ec) [] (v :: capSt σ is) H' s' → Q (.ref D) H' → RR (.ref D) C (.ok .next) s' := fun {H' v s'} J q => by
      obtain ⟨m', hm', _⟩ := J.loc
      have back := backI (J.ofE)
      refine hRR D C H' s' ⟨by rw [← hC]; exact I3.sz, fun p hp => by rw [← hC]; exact Nat.ne_of_lt (Heap.lt_size (I3.pin p hp).1)⟩ ⟨m', hm'⟩ hCL J.free ?_ back q
      have := back s'.heap (.refl ..)
      exact this
    have stat : ∀ {H' : Hp}, (∀ b ∈ fp, H' b = none) → ∀ b ∈ fp, FpOk (cxCompE X scope C (x :: ys) s3 H3 fp Ec) [] H' b := fun hn b hb => by
      obtain ⟨_, a1, a5, a2, a3, a4⟩ := f2 b hb
      refine ⟨hn b hb, Nat.ne_of_lt (fp3 b hb).2, fun z => ?_, .inl hb, fun y c e => a3 y c (hcells e), fun p hp => absurd (show p ∈ ([] : List (Addr × Obj)) from hp) (by simp)⟩
      rcases List.mem_cons.mp (I3.stkSub b z) with q | q
      · exact a1 q
      · exact a5 q
    have turnAt : ∀ n s, (∃ i v ys' H', Inv (cxCompE X scope C (x :: ys) s3 H3 fp Ec) [] (v :: capSt σ is) H' s ∧ tn i s.heap ∧ (∀ b ∈ fp, H' b = none) ∧ W i n ys' H') →
        wpAny (model X.prog X.w) X.A (pyNext (.ref it)) (fun r s₁ => match r with
          | none => RR (.ref D) C (.ok .next) s₁
          | some u => wpAny (model X.prog X.w) X.A (letOwnedTupleGo (.Name x px) (.ref it) u) (fun _ s₁ => wpAny (model X.prog X.w) X.A (assign (.Name x px) (compEnvC scope (closL scope.names X.env.cells []) C X.env) u) (fun _ s₂ =>
            ∃ (xx : V) (i : Nat) (ys' : List V) (H3' H6 : Hp) (pl : List (Addr × Obj)), Inv (cxCompE X scope C (x :: ys) s3 H3 fp Ec) ([] ++ pl) (some xx :: capSt σ is) H6 s₂ ∧
              (∀ s7 v7 H7, Inv (cxCompE X scope C (x :: ys) s3 H3 fp Ec) ([] ++ pl) (v7 :: capSt σ is) H7 s7 → Inv (cxCompE X scope C (x :: ys) s3 H3 fp Ec) [] (v7 :: capSt σ is) H7 s7 ∧ tn (i + 1) s7.heap ∧ ∀ b ∈ fp, H7 b = none) ∧
              (te (fun _ => E') (some xx :: capSt σ is) H6 fun y H5 => H5 D = some (.lst ys') ∧ ys'.length < sizeLine ∧ ∃ m', m' < n ∧ W (i + 1) m' (ys' ++ [y]) (upd H5 D (.lst (ys' ++ [y]))))) (fun _ _ => False) s₁) (fun _ _ => False) s₁) (fun _ _ => False) s := by
      rintro n s ⟨i, v, ys', H', J, st, fr, w'⟩
      rcases turn i n ys' H' w' with ⟨stop, qn⟩ | ⟨go, step⟩
      · refine thn (T.done (cxCompE X scope C (x :: ys) s3 H3 fp Ec) rfl rfl rfl hc i [] s _ H' (fun _ _ => False) J (stat fr) st stop) fun r s4 ⟨hr, J4⟩ => ?_
        subst hr
        exact fin J4 qn
      · refine thn (T.item (cxCompE X scope C (x :: ys) s3 H3 fp Ec) rfl rfl rfl hc i [] s _ H' (fun _ _ => False) J (stat fr) st go) fun r s4 ⟨u, hr, h4⟩ => ?_
        subst hr
        refine thn h4 fun _ s5 ⟨xx, H5, J5, r5, y5, st5, fr5⟩ => ?_
        have J5' := J5.pinned (stat fr5) (T.obj _ _ st5)
        refine wpAny_assign_Name (store_ok (i := 0) J5' S.nd rfl (.inl hown) r5 (fun s6 J6 => ?_) (.inr hown))
        refine ⟨xx, i, ys', H5, H5, pinsAt fp s5.heap, J6, fun s7 v7 H7 J7 => ⟨J7.unpinned, T.keep _ _ _ st5 fun b hb o e => (J7.pin (b, o) (List.mem_append_right _ (List.mem_append_right _ (mem_pinsAt hb e)))).1, fun b hb => ?_⟩, step xx H5 y5⟩
        obtain ⟨o, e, d⟩ := T.obj _ _ st5 b hb
        exact (J7.pin (b, o) (List.mem_append_right _ (List.mem_append_right _ (mem_pinsAt hb e)))).2.1
    have start0 : ∃ i v ys' H', Inv (cxCompE X scope C (x :: ys) s3 H3 fp Ec) [] (v :: capSt σ is) H' { s2 with heap := h₁, toks := s2.toks + ([] : List (Str × Value)).length } ∧ tn i h₁ ∧ (∀ b ∈ fp, H' b = none) ∧ W i m0 ys' H' :=
      ⟨0, none, [], H3, I4, st4, fun b hb => (fp3 b hb).1, w0⟩
    have emit : ∀ (n : Nat) (xx : V) (i : Nat) (ys' : List V) (H4 : Hp) (pl : List (Addr × Obj)) (s₂ : Shared), Inv (cxCompE X scope C (x :: ys) s3 H3 fp Ec) ([] ++ pl) (some xx :: capSt σ is) H4 s₂ →
        (∀ s7 v7 H7, Inv (cxCompE X scope C (x :: ys) s3 H3 fp Ec) ([] ++ pl) (v7 :: capSt σ is) H7 s7 → Inv (cxCompE X scope C (x :: ys) s3 H3 fp Ec) [] (v7 :: capSt σ is) H7 s7 ∧ tn (i + 1) s7.heap ∧ ∀ b ∈ fp, H7 b = none) →
        (te (fun _ => E') (some xx :: capSt σ is) H4 fun y H5 => H5 D = some (.lst ys') ∧ ys'.length < sizeLine ∧ ∃ m', m' < n ∧ W (i + 1) m' (ys' ++ [y]) (upd H5 D (.lst (ys' ++ [y])))) →
        wpAny (model X.prog X.w) X.A (eval elt (compEnvC scope (closL scope.names X.env.cells []) C X.env)) (fun y s₃ => wpAny (model X.prog X.w) X.A (call (.builtin "list.append") [.ref D, y]) (fun _ s₄ =>
          ∃ m, m < n ∧ ∃ i v ys' H', Inv (cxCompE X scope C (x :: ys) s3 H3 fp Ec) [] (v :: capSt σ is) H' s₄ ∧ tn i s₄.heap ∧ (∀ b ∈ fp, H' b = none) ∧ W i m ys' H') Ec s₃) Ec s₂ := by
      intro n xx i ys' H4 pl s₂ J2 back q
      refine thn (he C s3 H3 fp Ec _ pass ([] ++ pl) s₂ _ H4 _ J2 q) fun y s₃ ⟨yv, H5, J3, r3, q1, q2, q3⟩ => ?_
      refine thn (mt_append (X := cxCompE X scope C (x :: ys) s3 H3 fp Ec) ([] ++ pl) s₃ _ H5 (.ref D) [yv] (.ref D) [y] (fun v H7 => v = .non ∧ H7 = upd H5 D (.lst (ys' ++ [yv]))) J3 rfl (.cons r3 .nil) ⟨D, ys', yv, rfl, rfl, q1, q2, rfl, rfl⟩) fun _ s₄ ⟨_, H7, J4, _, _, e7⟩ => ?_
      subst e7
      obtain ⟨m', hm', w'⟩ := q3
      obtain ⟨b1, b2, b3⟩ := back s₄ _ _ J4
      exact ⟨m', hm', i + 1, some xx, ys' ++ [yv], _, b1, b2, b3, w'⟩
    refine codeAny_compLoop_no (fun n s => ∃ i v ys' H', Inv (cxCompE X scope C (x :: ys) s3 H3 fp Ec) [] (v :: capSt σ is) H' s ∧ tn i s.heap ∧ (∀ b ∈ fp, H' b = none) ∧ W i n ys' H') (fun n s hI => ?_) m0 start0
    refine wpAny_mono (turnAt n s hI) (fun r s₁ h₁ => ?_) fun _ _ q => q.elim
    cases r with
    | none => exact h₁
    | some u =>
      refine wpAny_mono h₁ (fun _ s₁ h₁ => wpAny_mono h₁ (fun _ s₂ h₂ => ?_) fun _ _ q => q.elim) fun _ _ q => q.elim
      obtain ⟨xx, i, ys', _, H6, pl, J2, back, q⟩ := h₂
      exact wpAny_mono (emit n xx i ys' H6 pl s₂ J2 back q) (fun y s₃ h₃ => wpAny_mono h₃ (fun _ _ z => z) noted) noted
  exact codeAny_compStart_list loop (T.self X.A 0 _ _ _ st4 loop)

def tCompX (is : List Nat) (wi : TI) (te : (St → XK) → TE) (E : St → XK) : TE := fun σ H Q => tComp is wi (fun _ H Q => Q true H) (te fun _ => E σ) σ H Q
theorem pe_compX {elt iter : Expr} {x : Str} {px pos : Pos} {scope : Scope} {ys : List Str} {is : List Nat} {wi : TI} {te : (St → XK) → TE} {E : St → XK}
    (hc : X.calm = true) (hP : PassL X E) (e1 : X.stack = X.env :: X.outer) (e2 : X.env.frame = some X.env.locals) (hex : X.ex = []) (S : CompScope scope x ys) (hcap : Caps X scope ys is) (hi : PI X (.Name x px) iter wi)
    (he : ∀ C s H fp Ec EH, PassS (CX1 X.prog X.w) (cxCompE X scope C (x :: ys) s H fp Ec) EH → PE (cxCompE X scope C (x :: ys) s H fp Ec) elt (te EH))
    (hs : ∀ x, foldedSetIterable iter X.env x = pure x := by intro _; rfl) : PE X (.ListComp elt [⟨.Name x px, iter, [], 0⟩] scope pos) (tCompX is wi te E) := by
  intro pins s σ H Q I h
  rw [eval_ListComp]
  refine wpAny_comprehension_free (use := none) rfl hs (clos_ok I.ok S hcap) S.kind S.names (thn (hi pins s σ H _ I h) fun v s1 h1 => thn h1 fun itv s2 h2 => ?_)
  obtain ⟨it, fp, tn, J, H2, rfl, I2, T, st2, f2, hW⟩ := h2
  refine comp_coreE (Q := Q) (E' := E σ) (RR := fun acc C => compPost (model X.prog X.w) X.A X.xe none (EP X pins σ Q) acc C) hc S hcap e1 e2 hex he I2 T st2 f2 ?_ ?_ ?_
  · intro D hD
    obtain ⟨W, w0, turn⟩ := hW D hD
    refine ⟨W, w0, fun i m ys H3 w' => ?_⟩
    rcases turn i m ys H3 w' with q | ⟨go, q⟩
    · exact .inl q
    · exact .inr ⟨go, fun x H4 y => by have z := q x H4 y; dsimp only at z; rw [if_pos rfl] at z; exact z⟩
  · intro D C H' s' hlt hns hne hfr I' back q
    obtain ⟨m, hm⟩ := hns
    exact ⟨m, hm, fun h' hs' => ⟨.ref D, H', back h' hs', rfl, q⟩⟩
  · intro D C H' s' a T Ce fl hns back na nT fa fT r hE
    obtain ⟨m, hm⟩ := hns
    refine ⟨m, hm, fun h' hs' cenv _ => ?_⟩
    have IO := back h' hs'
    obtain ⟨oe, vs, a0, oT, ts, ra, rc, rd, r1, rne, rT, rdT, r3⟩ := r
    obtain ⟨oC, es, ep, hoC, hdC, _⟩ := hm
    have naC : a ≠ C := by rintro rfl; rw [hoC] at ra; cases ra; rw [hdC] at rd; cases rd
    have nTC : T ≠ C := by rintro rfl; rw [hoC] at rT; cases rT; rw [hdC] at rdT; cases rdT
    have ra' : h'.get? a = some oe := (hs'.2 a naC).trans ra
    have rT' : h'.get? T = some oT := (hs'.2 T nTC).trans rT
    have hsz : 3 < ts.size := (Array.getElem?_eq_some_iff.mp r3).1
    unfold PySem.passOn
    refine wpAny_bind (wpAny_field ra' rd r1 ?_)
    rw [if_neg (show ¬ ((Value.ref T == Value.none) = true) from by simp)]
    unfold setFlight
    refine wpAny_bind (wpAny_bind (wpAny_field ra' rd r1 ?_))
    rw [if_pos (show (Value.ref T != Value.none) = true from by simp)]
    refine wpAny_setField rT' rdT hsz ?_
    refine wpAny_throw ?_
    have hdT' := Obj.data_mapFields rdT (·.setIfInBounds 3 (cenv.frame.elim Value.none fun f => rawInt f))
    exact hP pins σ H' { s' with heap := h' } a T Ce (cenv.frame.elim Value.none fun f => rawInt f) fl _ IO na nT fa fT ⟨oe, vs, a0, oT, ts, ra', rc, rd, r1, rne, rT', rdT, r3⟩ (fun b o hb hne => (Heap.get?_update_other _ _ (Ne.symm hne)).trans hb)
      ⟨oe, vs, a0, _, _, (Heap.get?_update_other _ _ rne).trans ra', rc, rd, r1, rne, Heap.get?_update_self _ rT' (Obj.isFreed_of_fields hdT'), hdT', by simp [hsz]⟩ hE
theorem x_compX {elt iter : Expr} {x : Str} {px pos : Pos} {scope : Scope} {ys : List Str} {is : List Nat} {wi : TI} {te : (St → XK) → TE} {E : St → XK} (hP : PassL X E) (S : CompScope scope x ys) (hcap : Caps X scope ys is) (hi : QI X (.Name x px) iter wi)
    (he : ∀ C s H fp Ec EH, PassS (CX1 X.prog X.w) (cxCompE X scope C (x :: ys) s H fp Ec) EH → QE (cxCompE X scope C (x :: ys) s H fp Ec) elt (te EH)) (hc : X.calm = true := by rfl)
    (e1 : X.stack = X.env :: X.outer := by rfl) (e2 : X.env.frame = some X.env.locals := by rfl) (hex : X.ex = [] := by rfl) (hs : ∀ x, foldedSetIterable iter X.env x = pure x := by intro _; rfl) :
    QE X (.ListComp elt [⟨.Name x px, iter, [], 0⟩] scope pos) (tCompX is wi te E) := ⟨pe_compX hc hP e1 e2 hex S hcap hi.out (fun C s H fp Ec EH p => (he C s H fp Ec EH p).out) hs⟩
end
theorem Fun.okNQ {P : Program} {w : World} {K : PySem.W.Frag} {mg : Str → Option Value} {base : Heap} {CX : CXT} {x qual : Str} {st : Stmt} {f : Addr} {fd : FuncData} {N ps : List Str} {k : Nat} {sp : Sp} (F : Fun K x qual st f fd) (S : FnScope N ps (defScope st)) (len : ∀ vs H Q E, sp vs H Q E → vs.length = ps.length) (t : TS)
    (hq : ∀ (cdv : Value) (A : Around) (outer : List Env) (s : Shared) (H : Hp) (E : XK), Room k (A.deeper (envOfC qual (defScope st) s.heap.objs.size f cdv)) → QSs (cxOf CX P w K mg base N qual (defScope st) f cdv A outer s H E).nox (defBody st) t)
    (hrd : ∀ (H : Hp) (vs : List V) (Q : VK) (E : XK), sp vs H Q E → t { nx := fun _ H' => Q .non H', rt := Q } (start N vs) H) : FnOk P w K mg base CX (k + 1) f fd ps sp :=
  F.okN S len fun cdv A outer s H vs Q E hr h => ⟨t, (hq cdv A outer s H E hr).out, hrd H vs Q E h⟩
end L2
namespace Rs
open PySem PySem.Spec PyProof.Rows L2
def top (i : Nat) : Stmt := PySem.Challenge.pw_rootstamp_k81_rows_read.main.body.getD i (.Pass ⟨0, 0, 0, 0⟩)
abbrev s__law_word : Stmt := top 17
abbrev s__law_cell_at : Stmt := top 15
abbrev s__law_wanted : Stmt := top 18
abbrev s__law_number : Stmt := top 19
abbrev s__law_signs : Stmt := top 16
abbrev s__law_spoiled : Stmt := top 22
abbrev s_figures_end : Stmt := top 5
abbrev s_is_number : Stmt := top 6
abbrev s_number_read : Stmt := top 13
abbrev s_numbers_read : Stmt := top 12
abbrev s_row_read : Stmt := top 11
abbrev s__law_refused : Stmt := top 23
abbrev s__law_figures : Stmt := top 20
abbrev s__law_due : Stmt := top 21
abbrev s__law_alike : Stmt := top 24
abbrev s_law : Stmt := top 25
def sAt (i : Nat) (l : List Stmt) : Stmt := l.getD i (.Pass ⟨0, 0, 0, 0⟩)
structure Adr where
  a__law_word : Addr
  d__law_word : FuncData
  a__law_cell_at : Addr
  d__law_cell_at : FuncData
  a__law_wanted : Addr
  d__law_wanted : FuncData
  a__law_number : Addr
  d__law_number : FuncData
  a__law_signs : Addr
  d__law_signs : FuncData
  a__law_spoiled : Addr
  d__law_spoiled : FuncData
  a_figures_end : Addr
  d_figures_end : FuncData
  a_is_number : Addr
  d_is_number : FuncData
  a_number_read : Addr
  d_number_read : FuncData
  a_numbers_read : Addr
  d_numbers_read : FuncData
  a_row_read : Addr
  d_row_read : FuncData
  a__law_refused : Addr
  d__law_refused : FuncData
  a__law_figures : Addr
  d__law_figures : FuncData
  a__law_due : Addr
  d__law_due : FuncData
  a__law_alike : Addr
  d__law_alike : FuncData
  a_law : Addr
  d_law : FuncData
  c_NoRow : Addr
  c_StampError : Addr
  g_WITH_TEXT : Addr
  g_WANTED : Addr
structure Txt (K : PySem.W.Frag) (mg : Str → Option Value) (A : Adr) : Prop where
  f__law_word : Fun K "_law_word" "_law_word" s__law_word A.a__law_word A.d__law_word
  m__law_word : mg "_law_word" = some (.ref A.a__law_word)
  b__law_word : Binds K A.d__law_word ["_law_cell"] []
  f__law_cell_at : Fun K "_law_cell_at" "_law_cell_at" s__law_cell_at A.a__law_cell_at A.d__law_cell_at
  m__law_cell_at : mg "_law_cell_at" = some (.ref A.a__law_cell_at)
  b__law_cell_at : Binds K A.d__law_cell_at ["_law_script", "_law_k"] []
  f__law_wanted : Fun K "_law_wanted" "_law_wanted" s__law_wanted A.a__law_wanted A.d__law_wanted
  m__law_wanted : mg "_law_wanted" = some (.ref A.a__law_wanted)
  b__law_wanted : Binds K A.d__law_wanted ["_law_word_here"] []
  f__law_number : Fun K "_law_number" "_law_number" s__law_number A.a__law_number A.d__law_number
  m__law_number : mg "_law_number" = some (.ref A.a__law_number)
  b__law_number : Binds K A.d__law_number ["_law_cell"] []
  f__law_signs : Fun K "_law_signs" "_law_signs" s__law_signs A.a__law_signs A.d__law_signs
  m__law_signs : mg "_law_signs" = some (.ref A.a__law_signs)
  b__law_signs : Binds K A.d__law_signs ["_law_cell", "_law_many"] []
  f__law_spoiled : Fun K "_law_spoiled" "_law_spoiled" s__law_spoiled A.a__law_spoiled A.d__law_spoiled
  m__law_spoiled : mg "_law_spoiled" = some (.ref A.a__law_spoiled)
  b__law_spoiled : Binds K A.d__law_spoiled ["_law_row", "_law_cell"] []
  f_figures_end : Fun K "figures_end" "figures_end" s_figures_end A.a_figures_end A.d_figures_end
  m_figures_end : mg "figures_end" = some (.ref A.a_figures_end)
  b_figures_end : Binds K A.d_figures_end ["text", "begin"] []
  f_is_number : Fun K "is_number" "is_number" s_is_number A.a_is_number A.d_is_number
  m_is_number : mg "is_number" = some (.ref A.a_is_number)
  b_is_number : Binds K A.d_is_number ["text", "most"] []
  f_number_read : Fun K "number_read" "number_read" s_number_read A.a_number_read A.d_number_read
  m_number_read : mg "number_read" = some (.ref A.a_number_read)
  b_number_read : Binds K A.d_number_read ["figures"] []
  f_numbers_read : Fun K "numbers_read" "numbers_read" s_numbers_read A.a_numbers_read A.d_numbers_read
  m_numbers_read : mg "numbers_read" = some (.ref A.a_numbers_read)
  b_numbers_read : Binds K A.d_numbers_read ["many", "parts"] []
  f_row_read : Fun K "row_read" "row_read" s_row_read A.a_row_read A.d_row_read
  m_row_read : mg "row_read" = some (.ref A.a_row_read)
  b_row_read : Binds K A.d_row_read ["row"] []
  f__law_refused : Fun K "_law_refused" "_law_refused" s__law_refused A.a__law_refused A.d__law_refused
  m__law_refused : mg "_law_refused" = some (.ref A.a__law_refused)
  b__law_refused : Binds K A.d__law_refused ["_law_thing"] []
  f__law_figures : Fun K "_law_figures" "_law_figures" s__law_figures A.a__law_figures A.d__law_figures
  m__law_figures : mg "_law_figures" = some (.ref A.a__law_figures)
  b__law_figures : Binds K A.d__law_figures ["_law_word_here"] []
  f__law_due : Fun K "_law_due" "_law_due" s__law_due A.a__law_due A.d__law_due
  m__law_due : mg "_law_due" = some (.ref A.a__law_due)
  b__law_due : Binds K A.d__law_due ["_law_row"] []
  f__law_alike : Fun K "_law_alike" "_law_alike" s__law_alike A.a__law_alike A.d__law_alike
  m__law_alike : mg "_law_alike" = some (.ref A.a__law_alike)
  b__law_alike : Binds K A.d__law_alike ["_law_found", "_law_due_here"] []
  f_law : Fun K "law" "law" s_law A.a_law A.d_law
  m_law : mg "law" = some (.ref A.a_law)
  b_law : Binds K A.d_law ["_law_script"] []
  z_bool : mg "bool" = none
  z_int : mg "int" = none
  z_isinstance : mg "isinstance" = none
  z_len : mg "len" = none
  z_list : mg "list" = none
  z_max : mg "max" = none
  z_range : mg "range" = none
  z_str : mg "str" = none
  z_tuple : mg "tuple" = none
  c_FIGURES : ∃ t, mg "FIGURES" = some (.str "0123456789" t)
  c_MOST_FIGURES : ∃ t, mg "MOST_FIGURES" = some (.int 20 t)
  mo_WITH_TEXT : mg "WITH_TEXT" = some (.ref A.g_WITH_TEXT)
  ob_WITH_TEXT : TupK K A.g_WITH_TEXT ["put", "bend"]
  mo_WANTED : mg "WANTED" = some (.ref A.g_WANTED)
  ob_WANTED : TabK K A.g_WANTED [("put", 2), ("take", 2), ("make", 1), ("split", 1), ("bend", 1), ("seat", 1), ("follow", 1), ("ask", 3), ("span", 4), ("meet", 2), ("lies", 0)]
  mc_NoRow : mg "NoRow" = some (.ref A.c_NoRow)
  eo_NoRow : ExcOk K A.c_NoRow
  mc_StampError : mg "StampError" = some (.ref A.c_StampError)
  eo_StampError : ExcOk K A.c_StampError
  eg_NoRow : ExcGet K A.c_NoRow
  sb_NoRow_StampError : subIn K A.c_NoRow A.c_StampError = some true
  ki_NoRow_NoRow : PySem.W.kitOne K (.ref A.c_NoRow) (.ref A.c_NoRow) = some true
def Tabs0 (A : Adr) (H : Hp) : Prop := ([] : List Addr).Nodup
theorem sc__law_word : FnScope ["_law_cell", "_law_some", "_law_odd"] ["_law_cell"] (defScope s__law_word) := ⟨rfl, rfl, rfl, by decide +kernel, rfl, by decide +kernel, by decide +kernel⟩
theorem sc__law_cell_at : FnScope ["_law_script", "_law_k"] ["_law_script", "_law_k"] (defScope s__law_cell_at) := ⟨rfl, rfl, rfl, by decide +kernel, rfl, by decide +kernel, by decide +kernel⟩
theorem sc__law_wanted : FnScope ["_law_word_here", "_law_wanted_here"] ["_law_word_here"] (defScope s__law_wanted) := ⟨rfl, rfl, rfl, by decide +kernel, rfl, by decide +kernel, by decide +kernel⟩
theorem sc__law_number : FnScope ["_law_cell", "_law_number_here", "_law_some"] ["_law_cell"] (defScope s__law_number) := ⟨rfl, rfl, rfl, by decide +kernel, rfl, by decide +kernel, by decide +kernel⟩
theorem sc__law_signs : FnScope ["_law_cell", "_law_many", "_law_some", "_law_found", "_law_number_here", "_law_k"] ["_law_cell", "_law_many"] (defScope s__law_signs) := ⟨rfl, rfl, rfl, by decide +kernel, rfl, by decide +kernel, by decide +kernel⟩
theorem sc__law_spoiled : FnScope ["_law_row", "_law_cell", "_law_at", "_law_blanks"] ["_law_row", "_law_cell"] (defScope s__law_spoiled) := ⟨rfl, rfl, rfl, by decide +kernel, rfl, by decide +kernel, by decide +kernel⟩
theorem sc_figures_end : FnScope ["text", "begin", "end"] ["text", "begin"] (defScope s_figures_end) := ⟨rfl, rfl, rfl, by decide +kernel, rfl, by decide +kernel, by decide +kernel⟩
theorem sc_is_number : FnScope ["text", "most"] ["text", "most"] (defScope s_is_number) := ⟨rfl, rfl, rfl, by decide +kernel, rfl, by decide +kernel, by decide +kernel⟩
theorem sc_number_read : FnScope ["figures"] ["figures"] (defScope s_number_read) := ⟨rfl, rfl, rfl, by decide +kernel, rfl, by decide +kernel, by decide +kernel⟩
theorem sc_numbers_read : FnScope ["many", "parts"] ["many", "parts"] (defScope s_numbers_read) := ⟨rfl, rfl, rfl, by decide +kernel, rfl, by decide +kernel, by decide +kernel⟩
theorem sc_row_read : FnScope ["row", "word", "many", "parts"] ["row"] (defScope s_row_read) := ⟨rfl, rfl, rfl, by decide +kernel, rfl, by decide +kernel, by decide +kernel⟩
theorem sc__law_refused : FnScope ["_law_thing", "e"] ["_law_thing"] (defScope s__law_refused) := ⟨rfl, rfl, rfl, by decide +kernel, rfl, by decide +kernel, by decide +kernel⟩
theorem sc__law_figures : FnScope ["_law_word_here"] ["_law_word_here"] (defScope s__law_figures) := ⟨rfl, rfl, rfl, by decide +kernel, rfl, by decide +kernel, by decide +kernel⟩
theorem sc__law_due : FnScope ["_law_row", "_law_words", "_law_many", "_law_ends", "_law_numbers", "_law_word_here"] ["_law_row"] (defScope s__law_due) := ⟨rfl, rfl, rfl, by decide +kernel, rfl, by decide +kernel, by decide +kernel⟩
theorem sc__law_alike : FnScope ["_law_found", "_law_due_here"] ["_law_found", "_law_due_here"] (defScope s__law_alike) := ⟨rfl, rfl, rfl, by decide +kernel, rfl, by decide +kernel, by decide +kernel⟩
theorem sc_law : FnScope ["_law_script", "_law_word_here", "_law_many", "_law_more", "_law_words", "_law_cell", "_law_text", "_law_row", "_law_due_here"] ["_law_script"] (defScope s_law) := ⟨rfl, rfl, rfl, by decide +kernel, rfl, by decide +kernel, by decide +kernel⟩
end Rs
namespace Rs
open PySem PySem.Spec PyProof.Rows L2
def isD (c : Nat) : Bool := decide (48 ≤ c ∧ c ≤ 57)
def figs (l : List Nat) : List Nat := l.takeWhile isD
def nv (ds : List Nat) : Nat := PySem.NumText.digitsVal ds
def mkS (l : List Nat) : Str := ⟨l.toArray⟩
def ascS (z : Str) : Bool := z.cps.all (· < 128)
def okL (ds : List Nat) : Bool := decide (1 ≤ ds.length ∧ ds.length ≤ 20) && ds.all isD && !(decide (ds.getD 0 0 = 48) && !decide (ds = [48]))
def okFig (z : Str) : Bool := okL z.cps.toList
def numOf (z : Str) : Int := (nv z.cps.toList : Nat)
def tabW : List (Str × Int) := [("put", 2), ("take", 2), ("make", 1), ("split", 1), ("bend", 1), ("seat", 1), ("follow", 1), ("ask", 3), ("span", 4), ("meet", 2), ("lies", 0)]
def wantD (w : Str) : Option Int := valD w tabW
def endsW (w : Str) : Bool := decide (w = (("put" : String) : Str)) || decide (w = (("bend" : String) : Str))
def W (z : Str) : List Str := Txt.split z ((" " : String) : Str)
def dueW : List Str → Option (Str × List Int × Str)
  | [] => none
  | w :: r => match wantD w with
    | none => none
    | some m => if (r.length < m.toNat + (if endsW w = true then 1 else 0) ∨ (endsW w = false ∧ m.toNat < r.length)) then none
      else if (r.take m.toNat).all okFig = true then some (w, (r.take m.toNat).map numOf, Txt.join ((" " : String) : Str) (r.drop m.toNat)) else none
def rowDue (z : Str) : Option (Str × List Int × Str) := dueW (W z)
def NoText (v : V) (H : Hp) : Prop := ∃ t, tyN H v = some t ∧ isI t "str" = false
def RowAt (H : Hp) (p : Addr) (x : Str × List Int × Str) : Prop := ∃ r, H p = some (.tup [.str x.1, .ref r, .str x.2.2]) ∧ H r = some (.lst (x.2.1.map V.int))
def sp__law_word (K : PySem.W.Frag) (A : Adr) : Sp := fun vs H Q _ => ∃ c : Int, vs = [.int c] ∧ ∀ (z : Str) (H' : Hp), Same H H' → z.length ≤ 6 → ascS z = true → Q (.str z) H'
def sp__law_cell_at (K : PySem.W.Frag) (A : Adr) : Sp := fun vs H Q _ => ∃ (a : Addr) (ns : List Int) (k : Int), vs = [.ref a, .int k] ∧ SqL K H a (ns.map V.int) ∧ 0 ≤ k ∧ ∀ z, Q (.int z) H
def sp__law_wanted (K : PySem.W.Frag) (A : Adr) : Sp := fun vs H Q _ => ∃ z : Str, vs = [.str z] ∧ ∀ H', Same H H' → Q (.int ((wantD z).getD (-1))) H'
def sp__law_number (K : PySem.W.Frag) (A : Adr) : Sp := fun vs H Q _ => ∃ c : Int, vs = [.int c] ∧ ∀ (z : Str) (H' : Hp), Same H H' → z.length ≤ 30 → ascS z = true → Q (.str z) H'
def sp__law_signs (K : PySem.W.Frag) (A : Adr) : Sp := fun vs H Q _ => ∃ c m : Int, vs = [.int c, .int m] ∧ 0 ≤ m ∧ m ≤ 900 ∧ ∀ z H', Same H H' → z.length ≤ m.toNat → ascS z = true → Q (.str z) H'
def sp__law_spoiled (K : PySem.W.Frag) (A : Adr) : Sp := fun vs H Q _ => ∃ (z : Str) (c : Int), vs = [.str z, .int c] ∧ z.length ≤ 1000 ∧ ascS z = true ∧ ∀ (y : Str) (H' : Hp), Same H H' → y.length ≤ 1001 → ascS y = true → Q (.str y) H'
def sp_figures_end (K : PySem.W.Frag) (A : Adr) : Sp := fun vs H Q _ => ∃ (z : Str) (e : Nat), vs = [.str z, .int (e : Int)] ∧ e ≤ z.length ∧ z.length ≤ 100000 ∧ Q (.int ((e + (figs (z.cps.toList.drop e)).length : Nat) : Int)) H
def sp_is_number (K : PySem.W.Frag) (A : Adr) : Sp := fun vs H Q _ => ∃ z : Str, vs = [.str z, .int 20] ∧ z.length ≤ 100000 ∧ Q (.bl (okFig z)) H
def sp_number_read (K : PySem.W.Frag) (A : Adr) : Sp := fun vs H Q E => ∃ z : Str, vs = [.str z] ∧ z.length ≤ 100000 ∧ (okFig z = true → Q (.int (numOf z)) H) ∧ (okFig z = false → E (.ref A.c_NoRow) none H)
def sp_numbers_read (K : PySem.W.Frag) (A : Adr) : Sp := fun vs H Q E => ∃ (m : Int) (p : Addr) (ws : List Str), vs = [.int m, .ref p] ∧ H p = some (.lst (ws.map V.str)) ∧ ws.length ≤ 10000 ∧ (∀ w ∈ ws, w.length ≤ 100000) ∧
  ((ws.length : Int) = m → ws.all okFig = true → ∀ (r : Addr) (H' : Hp), Same H H' → H' r = some (.lst ((ws.map numOf).map V.int)) → Q (.ref r) H') ∧ (¬ ((ws.length : Int) = m ∧ ws.all okFig = true) → ∀ H', Same H H' → E (.ref A.c_NoRow) none H')
def sp_row_read (K : PySem.W.Frag) (A : Adr) : Sp := fun vs H Q E => ∃ v, vs = [v] ∧ ((NoText v H ∧ ∀ H', Same H H' → E (.ref A.c_NoRow) none H') ∨
  ∃ z, v = .str z ∧ z.length ≤ 2000 ∧ ascS z = true ∧ (∀ x, rowDue z = some x → ∀ (p : Addr) (H' : Hp), Same H H' → RowAt H' p x → Q (.ref p) H') ∧ (rowDue z = none → ∀ H', Same H H' → E (.ref A.c_NoRow) none H'))
def sp__law_refused (K : PySem.W.Frag) (A : Adr) : Sp := fun vs H Q _ => ∃ v, vs = [v] ∧ (NoText v H ∨ ∃ z, v = .str z ∧ z.length ≤ 2000 ∧ ascS z = true ∧ rowDue z = none) ∧ ∀ H', Same H H' → Q (.bl true) H'
def sp__law_figures (K : PySem.W.Frag) (A : Adr) : Sp := fun vs H Q _ => ∃ z : Str, vs = [.str z] ∧ z.length ≤ 2000 ∧ ascS z = true ∧ ∀ H', Same H H' → Q (.bl (okFig z)) H'
def sp__law_due (K : PySem.W.Frag) (A : Adr) : Sp := fun vs H Q _ => ∃ z : Str, vs = [.str z] ∧ z.length ≤ 2000 ∧ ascS z = true ∧ (∀ x, rowDue z = some x → ∀ (p : Addr) (H' : Hp), Same H H' → RowAt H' p x → Q (.ref p) H') ∧ (rowDue z = none → ∀ H', Same H H' → Q .non H')
def sp__law_alike (K : PySem.W.Frag) (A : Adr) : Sp := fun vs H Q _ => ∃ (p q : Addr) (x : Str × List Int × Str), vs = [.ref p, .ref q] ∧ RowAt H p x ∧ RowAt H q x ∧ x.2.1.length ≤ 10000 ∧ ascS x.1 = true ∧ ascS x.2.2 = true ∧ ∀ H', Same H H' → Q (.bl true) H'
def sp_law (K : PySem.W.Frag) (A : Adr) : Sp := fun vs H Q _ => ∃ (a : Addr) (ns : List Int), vs = [.ref a] ∧ SqL K H a (ns.map V.int) ∧ ns.length ≤ 63 ∧ Tabs0 A H ∧ ∀ H', Q (.bl true) H'
end Rs
namespace Rs
open PySem PySem.Spec PyProof.Rows L2

def T__law_word (K : PySem.W.Frag) (A : Adr) : TS := tSeq (tAsg (tLst (tCons (tC (.str "put")) (tCons (tC (.str "take")) (tCons (tC (.str "make")) (tCons (tC (.str "split")) (tCons (tC (.str "bend")) (tCons (tC (.str "seat")) (tCons (tC (.str "follow")) (tCons (tC (.str "ask")) (tCons (tC (.str "span")) (tCons (tC (.str "meet")) (tCons (tC (.str "lies")) (tNil))))))))))))) (gName 1)) (tSeq (tAsg (tLst (tCons (tC (.str "")) (tCons (tC (.str "Put")) (tCons (tC (.str "puts")) (tCons (tC (.str "pu")) (tCons (tC (.str "lie")) (tCons (tC (.str "asks")) (tCons (tC (.str "ma ke")) (tCons (tC (.str "held")) (tNil)))))))))) (gName 2)) (tSeq (mIfS (mTest (tOp (mEqC K) (tOp (mMod) (mVar 0) (tC (.int 6))) (tC (.int 5)))) (tRet (tOp (rIxA K) (mVar 2) (tOp (mMod) (tOp (mFdivB) (mVar 0) (tC (.int 6))) (tC (.int 8))))) (tNext)) (tRet (tOp (rIxA K) (mVar 1) (tOp (mMod) (tOp (mFdivB) (mVar 0) (tC (.int 6))) (tC (.int 11)))))))
def T__law_cell_at (K : PySem.W.Frag) (A : Adr) : TS := tSeq (mIfS (mTest (tOp (mLt) (mVar 1) (tCB (kLenA K) (tCons (mVar 0) (tNil))))) (tRet (tOp (rIxA K) (mVar 0) (mVar 1))) (tNext)) (tRet (tC (.int 0)))
def T__law_wanted (K : PySem.W.Frag) (A : Adr) : TS := tSeq (tAsg (tDisp ((tC (.str "put"), tC (.int 2)) :: (tC (.str "take"), tC (.int 2)) :: (tC (.str "make"), tC (.int 1)) :: (tC (.str "split"), tC (.int 1)) :: (tC (.str "bend"), tC (.int 1)) :: (tC (.str "seat"), tC (.int 1)) :: (tC (.str "follow"), tC (.int 1)) :: [])) (gName 1)) (tSeq (tDrop (tBM K "dict" rUpd (mVar 1) (tCons (tDisp ((tC (.str "ask"), tC (.int 3)) :: (tC (.str "span"), tC (.int 4)) :: (tC (.str "meet"), tC (.int 2)) :: (tC (.str "lies"), tC (.int 0)) :: [])) (tNil)))) (tRet (tBM K "dict" rGet2 (mVar 1) (tCons (mVar 0) (tCons (tUn mNeg (tC (.int 1))) (tNil))))))
def T__law_number (K : PySem.W.Frag) (A : Adr) : TS := tSeq (tAsg (tOp (mFdivB) (mVar 0) (tC (.int 6))) (gName 1)) (tSeq (mIfS (mTest (tOp (mLt) (tOp (mMod) (mVar 0) (tC (.int 6))) (tC (.int 5)))) (tRet (tCB (kStr) (tCons (tOp (mMod) (mVar 1) (tOp (rIxA K) (tLst (tCons (tC (.int 10)) (tCons (tC (.int 1000)) (tCons (tOp (mPow) (tC (.int 10)) (tC (.int 20))) (tCons (tOp (mPow) (tC (.int 10)) (tC (.int 20))) (tCons (tC (.int 1)) (tNil))))))) (tOp (mMod) (mVar 0) (tC (.int 6))))) (tNil)))) (tNext)) (tSeq (tAsg (tLst (tCons (tC (.str "")) (tCons (tC (.str "00")) (tCons (tC (.str "07")) (tCons (tC (.str "+3")) (tCons (tC (.str "-1")) (tCons (tC (.str "1e3")) (tCons (tC (.str "12a")) (tCons (tC (.str "a")) (tCons (tCB (kStr) (tCons (tOp (mAddG K) (tOp (mPow) (tC (.int 10)) (tC (.int 20))) (tOp (mMod) (mVar 1) (tC (.int 1000)))) (tNil))) (tCons (tC (.str "0x1")) (tCons (tC (.str "1.0")) (tNil))))))))))))) (gName 2)) (tRet (tOp (rIxA K) (mVar 2) (tOp (mMod) (mVar 1) (tC (.int 11)))))))
def T__law_signs (K : PySem.W.Frag) (A : Adr) : TS := tSeq (tAsg (tC (.str " !\"#$&'()*+,-./0123456789:;<=>?@ABCDEFGHIJKLMNOPQRSTUVWXYZ[\\]^_`abcdefghijklmnopqrstuvwxyz{|}~")) (gName 2)) (tSeq (tAsg (tLst (tNil)) (gName 3)) (tSeq (tAsg (tOp (mMod) (mVar 0) (tC (.int 2147483647))) (gName 4)) (tSeq (tFor (iRng1 (tCons (mVar 1) (tNil))) (gName 5) (tSeq (tAsg (tOp (mMod) (tOp (mAddG K) (tOp (mAddG K) (tOp (mMulB) (mVar 4) (tC (.int 48271))) (mVar 5)) (tC (.int 1))) (tC (.int 2147483647))) (gName 4)) (tDrop (tBM K "list" rAppend (mVar 3) (tCons (tOp (rIxA K) (mVar 2) (tOp (mMod) (mVar 4) (tC (.int 94)))) (tNil)))))) (tRet (tBM K "str" rJoin (tC (.str "")) (tCons (mVar 3) (tNil)))))))
def T__law_spoiled (K : PySem.W.Frag) (A : Adr) : TS := tSeq (tAsg (tOp (mMod) (tOp (mFdivB) (mVar 1) (tC (.int 2))) (tOp (mAddG K) (tCB (kLenA K) (tCons (mVar 0) (tNil))) (tC (.int 1)))) (gName 2)) (tSeq (mIfS (mTest (tOp (mEqC K) (tOp (mMod) (mVar 1) (tC (.int 2))) (tC (.int 0)))) (tRet (tOp (mAddG K) (tOp (mAddG K) (tSl (rSlA K) (mVar 0) (tNoPart) (tPart (mVar 2))) (tC (.str " "))) (tSl (rSlA K) (mVar 0) (tPart (mVar 2)) (tNoPart)))) (tNext)) (tSeq (tAsg (tComp [0] (iRng1 (tCons (tCB (kLenA K) (tCons (mVar 0) (tNil))) (tNil))) (mTest (tOp (mEqC K) (tOp (rIxA K) (mVar 1) (mVar 0)) (tC (.str " ")))) (mVar 0)) (gName 3)) (tSeq (mIfS (mTest (tOp (mEqC K) (mVar 3) (tLst (tNil)))) (tRet (tOp (mAddG K) (mVar 0) (tC (.str " ")))) (tNext)) (tSeq (tAsg (tOp (rIxA K) (mVar 3) (tOp (mMod) (tOp (mFdivB) (mVar 1) (tC (.int 2))) (tCB (kLenA K) (tCons (mVar 3) (tNil))))) (gName 2)) (tRet (tOp (mAddG K) (tSl (rSlA K) (mVar 0) (tNoPart) (tPart (mVar 2))) (tSl (rSlA K) (mVar 0) (tPart (tOp (mAddG K) (mVar 2) (tC (.int 1)))) (tNoPart))))))))
def T_figures_end (K : PySem.W.Frag) (A : Adr) : TS := tSeq (tAsg (mVar 1) (gName 2)) (tSeq (tWhile (mAnd (mTest (tOp (mLt) (mVar 2) (tCB (kLenA K) (tCons (mVar 0) (tNil))))) (mTest (tOp (mInA K) (tOp (rIxA K) (mVar 0) (mVar 2)) (tC (.str "0123456789"))))) (tAsg (tOp (mAddG K) (mVar 2) (tC (.int 1))) (gName 2))) (tRet (mVar 2)))
def T_is_number (K : PySem.W.Frag) (A : Adr) : TS := tSeq (mIfS (mOr (tNot (mTest (mChain (mLe) (mLe) (tC (.int 1)) (tCB (kLenA K) (tCons (mVar 0) (tNil))) (mVar 1)))) (mTest (tOp (mNeB K) (tCallX (sp_figures_end K A) (fun _ => E0) (tCons (mVar 0) (tCons (tC (.int 0)) (tNil)))) (tCB (kLenA K) (tCons (mVar 0) (tNil)))))) (tRet (tC (.bl false))) (tNext)) (tRet (mOrV (tOp (mEqC K) (mVar 0) (tC (.str "0"))) (tOp (mNeB K) (tOp (rIxA K) (mVar 0) (tC (.int 0))) (tC (.str "0")))))
def T_number_read (K : PySem.W.Frag) (A : Adr) (E : XK) : TS := tSeq (mIfS (tNot (mTru K (tCallX (sp_is_number K A) (fun _ => E0) (tCons (mVar 0) (tCons (tC (.int 20)) (tNil)))))) (tRaise A.c_NoRow (fun _ => E)) (tNext)) (tRet (tCB (kInt) (tCons (mVar 0) (tNil))))
def T_numbers_read (K : PySem.W.Frag) (A : Adr) (E : XK) : TS := tSeq (mIfS (mTest (tOp (mNeB K) (tCB (kLenA K) (tCons (mVar 1) (tNil))) (mVar 0))) (tRaise A.c_NoRow (fun _ => E)) (tNext)) (tRet (tCompX [] (iSeqA K (mVar 1)) (fun EH => tCallX (sp_number_read K A) EH (tCons (mVar 0) (tNil))) (fun _ => E)))
def R_row_read_6 (K : PySem.W.Frag) (A : Adr) (E : XK) : TS := tRet (tTup (tCons (mVar 1) (tCons (tCallX (sp_numbers_read K A) (fun _ => E) (tCons (mVar 2) (tCons (tSl (rSlA K) (mVar 3) (tPart (tC (.int 1))) (tPart (tUn mNeg (tC (.int 1))))) (tNil)))) (tCons (tOp (rIxA K) (mVar 3) (tUn mNeg (tC (.int 1)))) (tNil)))))
def R_row_read_5 (K : PySem.W.Frag) (A : Adr) (E : XK) : TS := tSeq (tAsg (tBM K "str" rSplit (mVar 0) (tCons (tC (.str " ")) (tCons (tOp (mAddG K) (mVar 2) (tC (.int 1))) (tNil)))) (gName 3)) (R_row_read_6 K A E)
def R_row_read_4 (K : PySem.W.Frag) (A : Adr) (E : XK) : TS := tSeq (mIfS (mTest (tOp (mNotInA K) (mVar 1) (tC (.ref A.g_WITH_TEXT)))) (tRet (tTup (tCons (mVar 1) (tCons (tCallX (sp_numbers_read K A) (fun _ => E) (tCons (mVar 2) (tCons (tSl (rSlA K) (tBM K "str" rSplit (mVar 0) (tCons (tC (.str " ")) (tNil))) (tPart (tC (.int 1))) (tNoPart)) (tNil)))) (tCons (tC (.str "")) (tNil)))))) (tNext)) (R_row_read_5 K A E)
def R_row_read_3 (K : PySem.W.Frag) (A : Adr) (E : XK) : TS := tSeq (tAsg (tOp (rIxK K) (tC (.ref A.g_WANTED)) (mVar 1)) (gName 2)) (R_row_read_4 K A E)
def R_row_read_2 (K : PySem.W.Frag) (A : Adr) (E : XK) : TS := tSeq (mIfS (mTest (tOp (rNotInK K) (mVar 1) (tC (.ref A.g_WANTED)))) (tRaise A.c_NoRow (fun _ => E)) (tNext)) (R_row_read_3 K A E)
def T_row_read (K : PySem.W.Frag) (A : Adr) (E : XK) : TS := tSeq (mIfS (tNot (mTru K (tCB (kIsi) (tCons (mVar 0) (tCons (tC (.ty "str")) (tNil)))))) (tRaise A.c_NoRow (fun _ => E)) (tNext)) (tSeq (tAsg (tOp (rIxA K) (tBM K "str" rPartn (mVar 0) (tCons (tC (.str " ")) (tNil))) (tC (.int 0))) (gName 1)) (tSeq (mIfS (mTest (tOp (rNotInK K) (mVar 1) (tC (.ref A.g_WANTED)))) (tRaise A.c_NoRow (fun _ => E)) (tNext)) (tSeq (tAsg (tOp (rIxK K) (tC (.ref A.g_WANTED)) (mVar 1)) (gName 2)) (tSeq (mIfS (mTest (tOp (mNotInA K) (mVar 1) (tC (.ref A.g_WITH_TEXT)))) (tRet (tTup (tCons (mVar 1) (tCons (tCallX (sp_numbers_read K A) (fun _ => E) (tCons (mVar 2) (tCons (tSl (rSlA K) (tBM K "str" rSplit (mVar 0) (tCons (tC (.str " ")) (tNil))) (tPart (tC (.int 1))) (tNoPart)) (tNil)))) (tCons (tC (.str "")) (tNil)))))) (tNext)) (tSeq (tAsg (tBM K "str" rSplit (mVar 0) (tCons (tC (.str " ")) (tCons (tOp (mAddG K) (mVar 2) (tC (.int 1))) (tNil)))) (gName 3)) (tRet (tTup (tCons (mVar 1) (tCons (tCallX (sp_numbers_read K A) (fun _ => E) (tCons (mVar 2) (tCons (tSl (rSlA K) (mVar 3) (tPart (tC (.int 1))) (tPart (tUn mNeg (tC (.int 1))))) (tNil)))) (tCons (tOp (rIxA K) (mVar 3) (tUn mNeg (tC (.int 1)))) (tNil)))))))))))
def R__law_refused_1 (K : PySem.W.Frag) (A : Adr) : TS := tRet (tC (.bl false))
def T__law_refused (K : PySem.W.Frag) (A : Adr) : TS := tSeq (tTry K (fun EH => tDrop (tCallX (sp_row_read K A) EH (tCons (mVar 0) (tNil)))) (hAs K A.c_StampError 1 (tRet (tCB (kIsiE K) (tCons (mVar 1) (tCons (tC (.ref A.c_NoRow)) (tNil))))) (hNone)) (tNext)) (tRet (tC (.bl false)))
def T__law_figures (K : PySem.W.Frag) (A : Adr) : TS := tSeq (mIfS (mOr (mTest (tOp (mEqC K) (mVar 0) (tC (.str "")))) (mOr (mTest (tOp (mGt) (tCB (kLenA K) (tCons (mVar 0) (tNil))) (tC (.int 20)))) (mAnd (mTest (tOp (mEqC K) (tOp (rIxA K) (mVar 0) (tC (.int 0))) (tC (.str "0")))) (mTest (tOp (mNeB K) (mVar 0) (tC (.str "0"))))))) (tRet (tC (.bl false))) (tNext)) (tRet (tOp (mEqC K) (tCB (kLenA K) (tCons (tComp [] (iSeqA K (mVar 0)) (mTest (tOp (mInA K) (mVar 0) (tC (.str "0123456789")))) (mVar 0)) (tNil))) (tCB (kLenA K) (tCons (mVar 0) (tNil)))))
def R__law_due_6 (K : PySem.W.Frag) (A : Adr) : TS := tRet (tTup (tCons (tOp (rIxA K) (mVar 1) (tC (.int 0))) (tCons (mVar 4) (tCons (tBM K "str" rJoin (tC (.str " ")) (tCons (tSl (rSlA K) (mVar 1) (tPart (tOp (mAddG K) (mVar 2) (tC (.int 1)))) (tNoPart)) (tNil))) (tNil)))))
def R__law_due_5 (K : PySem.W.Frag) (A : Adr) : TS := tSeq (tFor (iSeqA K (tSl (rSlA K) (mVar 1) (tPart (tC (.int 1))) (tPart (tOp (mAddG K) (mVar 2) (tC (.int 1)))))) (gName 5) (tSeq (mIfS (tNot (mTru K (tCallX (sp__law_figures K A) (fun _ => E0) (tCons (mVar 5) (tNil))))) (tRet (tC .non)) (tNext)) (tDrop (tBM K "list" rAppend (mVar 4) (tCons (tCB (kInt) (tCons (mVar 5) (tNil))) (tNil)))))) (R__law_due_6 K A)
def R__law_due_4 (K : PySem.W.Frag) (A : Adr) : TS := tSeq (tAsg (tLst (tNil)) (gName 4)) (R__law_due_5 K A)
def R__law_due_3 (K : PySem.W.Frag) (A : Adr) : TS := tSeq (mIfS (mOr (mTest (tOp (mLt) (mVar 2) (tC (.int 0)))) (mOr (mTest (tOp (mLt) (tCB (kLenA K) (tCons (mVar 1) (tNil))) (tOp (mAddG K) (tOp (mAddG K) (mVar 2) (tC (.int 1))) (tCB (kInt) (tCons (mVar 3) (tNil)))))) (mAnd (tNot (mTru K (mVar 3))) (mTest (tOp (mGt) (tCB (kLenA K) (tCons (mVar 1) (tNil))) (tOp (mAddG K) (mVar 2) (tC (.int 1)))))))) (tRet (tC .non)) (tNext)) (R__law_due_4 K A)
def T__law_due (K : PySem.W.Frag) (A : Adr) : TS := tSeq (tAsg (tBM K "str" rSplit (mVar 0) (tCons (tC (.str " ")) (tNil))) (gName 1)) (tSeq (tAsg (tCallX (sp__law_wanted K A) (fun _ => E0) (tCons (tOp (rIxA K) (mVar 1) (tC (.int 0))) (tNil))) (gName 2)) (tSeq (tAsg (mOrV (tOp (mEqC K) (tOp (rIxA K) (mVar 1) (tC (.int 0))) (tC (.str "put"))) (tOp (mEqC K) (tOp (rIxA K) (mVar 1) (tC (.int 0))) (tC (.str "bend")))) (gName 3)) (tSeq (mIfS (mOr (mTest (tOp (mLt) (mVar 2) (tC (.int 0)))) (mOr (mTest (tOp (mLt) (tCB (kLenA K) (tCons (mVar 1) (tNil))) (tOp (mAddG K) (tOp (mAddG K) (mVar 2) (tC (.int 1))) (tCB (kInt) (tCons (mVar 3) (tNil)))))) (mAnd (tNot (mTru K (mVar 3))) (mTest (tOp (mGt) (tCB (kLenA K) (tCons (mVar 1) (tNil))) (tOp (mAddG K) (mVar 2) (tC (.int 1)))))))) (tRet (tC .non)) (tNext)) (tSeq (tAsg (tLst (tNil)) (gName 4)) (tSeq (tFor (iSeqA K (tSl (rSlA K) (mVar 1) (tPart (tC (.int 1))) (tPart (tOp (mAddG K) (mVar 2) (tC (.int 1)))))) (gName 5) (tSeq (mIfS (tNot (mTru K (tCallX (sp__law_figures K A) (fun _ => E0) (tCons (mVar 5) (tNil))))) (tRet (tC .non)) (tNext)) (tDrop (tBM K "list" rAppend (mVar 4) (tCons (tCB (kInt) (tCons (mVar 5) (tNil))) (tNil)))))) (tRet (tTup (tCons (tOp (rIxA K) (mVar 1) (tC (.int 0))) (tCons (mVar 4) (tCons (tBM K "str" rJoin (tC (.str " ")) (tCons (tSl (rSlA K) (mVar 1) (tPart (tOp (mAddG K) (mVar 2) (tC (.int 1)))) (tNoPart)) (tNil))) (tNil)))))))))))
def T__law_alike (K : PySem.W.Frag) (A : Adr) : TS := tSeq (mIfS (mOr (tNot (mTru K (tCB (kIsi) (tCons (mVar 0) (tCons (tC (.ty "tuple")) (tNil)))))) (mOr (mTest (tOp (mNeB K) (tCB (kLenA K) (tCons (mVar 0) (tNil))) (tC (.int 3)))) (tNot (mTru K (tCB (kIsi) (tCons (tOp (rIxA K) (mVar 0) (tC (.int 0))) (tCons (tC (.ty "str")) (tNil)))))))) (tRet (tC (.bl false))) (tNext)) (tSeq (mIfS (mOr (tNot (mTru K (tCB (kIsi) (tCons (tOp (rIxA K) (mVar 0) (tC (.int 1))) (tCons (tC (.ty "list")) (tNil)))))) (mOr (tNot (mTru K (tCB (kIsi) (tCons (tOp (rIxA K) (mVar 0) (tC (.int 2))) (tCons (tC (.ty "str")) (tNil)))))) (mTest (tOp (mNeB K) (mVar 0) (mVar 1))))) (tRet (tC (.bl false))) (tNext)) (tRet (tOp (mEqC K) (tCB (kLenA K) (tCons (tComp [] (iSeqA K (tOp (rIxA K) (mVar 0) (tC (.int 1)))) (mAnd (mTru K (tCB (kIsi) (tCons (mVar 0) (tCons (tC (.ty "int")) (tNil))))) (tNot (mTru K (tCB (kIsi) (tCons (mVar 0) (tCons (tC (.ty "bool")) (tNil))))))) (mVar 0)) (tNil))) (tCB (kLenA K) (tCons (tOp (rIxA K) (mVar 1) (tC (.int 1))) (tNil))))))
def R_law_11 (K : PySem.W.Frag) (A : Adr) : TS := tRet (tCallX (sp__law_alike K A) (fun _ => E0) (tCons (tCallX (sp_row_read K A) (fun _ => E0) (tCons (mVar 7) (tNil))) (tCons (mVar 8) (tNil))))
def R_law_10 (K : PySem.W.Frag) (A : Adr) : TS := tSeq (mIfS (mTest (tOp (mIsA) (mVar 8) (tC .non))) (tRet (tCallX (sp__law_refused K A) (fun _ => E0) (tCons (mVar 7) (tNil)))) (tNext)) (R_law_11 K A)
def R_law_9 (K : PySem.W.Frag) (A : Adr) : TS := tSeq (tAsg (tCallX (sp__law_due K A) (fun _ => E0) (tCons (mVar 7) (tNil))) (gName 8)) (R_law_10 K A)
def R_law_8 (K : PySem.W.Frag) (A : Adr) : TS := tSeq (mIfS (mTest (tOp (mEqC K) (tOp (mMod) (tOp (mFdivB) (mVar 3) (tC (.int 300))) (tC (.int 16))) (tC (.int 7)))) (tRet (tCallX (sp__law_refused K A) (fun _ => E0) (tCons (tOp (rIxA K) (tLst (tCons (tC .non) (tCons (tC (.int 3)) (tCons (tC (.bl true)) (tCons (tLst (tCons (mVar 7) (tNil))) (tCons (tTup (tCons (mVar 7) (tCons (tLst (tNil)) (tNil)))) (tCons (tDNewA) (tNil)))))))) (tOp (mMod) (tOp (mFdivB) (mVar 3) (tC (.int 4800))) (tC (.int 6)))) (tNil)))) (tNext)) (R_law_9 K A)
def R_law_7 (K : PySem.W.Frag) (A : Adr) : TS := tSeq (mIfS (mTest (tOp (mEqC K) (tOp (mMod) (tOp (mFdivB) (mVar 3) (tC (.int 60))) (tC (.int 5))) (tC (.int 4)))) (tAsg (tCallX (sp__law_spoiled K A) (fun _ => E0) (tCons (mVar 7) (tCons (tCallX (sp__law_cell_at K A) (fun _ => E0) (tCons (mVar 0) (tCons (tC (.int 9)) (tNil)))) (tNil)))) (gName 7)) (tNext)) (R_law_8 K A)
def R_law_6 (K : PySem.W.Frag) (A : Adr) : TS := tSeq (tAsg (tBM K "str" rJoin (tC (.str " ")) (tCons (mVar 4) (tNil))) (gName 7)) (R_law_7 K A)
def R_law_5 (K : PySem.W.Frag) (A : Adr) : TS := tSeq (mIfS (mAnd (mOr (mTest (tOp (mEqC K) (mVar 1) (tC (.str "put")))) (mTest (tOp (mEqC K) (mVar 1) (tC (.str "bend"))))) (mTest (tOp (mGt) (tOp (mMod) (tOp (mFdivB) (mVar 3) (tC (.int 10))) (tC (.int 6))) (tC (.int 0))))) (tSeq (tAsg (tCallX (sp__law_cell_at K A) (fun _ => E0) (tCons (mVar 0) (tCons (tC (.int 2)) (tNil)))) (gName 5)) (tSeq (tAsg (tCallX (sp__law_signs K A) (fun _ => E0) (tCons (mVar 5) (tCons (tOp (mMod) (mVar 5) (tC (.int 79))) (tNil)))) (gName 6)) (tDrop (tBM K "list" rAppend (mVar 4) (tCons (tOp (rIxA K) (tLst (tCons (mVar 6) (tCons (tOp (mAddG K) (tC (.str " ")) (mVar 6)) (tCons (tOp (mAddG K) (mVar 6) (tC (.str " "))) (tCons (tOp (mAddG K) (tOp (mAddG K) (tC (.str " ")) (mVar 6)) (tC (.str "  "))) (tNil)))))) (tOp (mMod) (tOp (mFdivB) (mVar 5) (tC (.int 79))) (tC (.int 4)))) (tNil)))))) (tNext)) (R_law_6 K A)
def R_law_4 (K : PySem.W.Frag) (A : Adr) : TS := tSeq (tAsg (tOp (mAddG K) (tLst (tCons (mVar 1) (tNil))) (tComp [0] (iRng1 (tCons (mVar 2) (tNil))) (fun _ H Q => Q true H) (tCallX (sp__law_number K A) (fun _ => E0) (tCons (tCallX (sp__law_cell_at K A) (fun _ => E0) (tCons (mVar 1) (tCons (tOp (mAddG K) (tC (.int 3)) (mVar 0)) (tNil)))) (tNil))))) (gName 4)) (R_law_5 K A)
def R_law_3 (K : PySem.W.Frag) (A : Adr) : TS := tSeq (mIfS (mTest (tOp (mEqC K) (tOp (mMod) (mVar 3) (tC (.int 5))) (tC (.int 4)))) (tAsg (tCB (kMax) (tCons (tC (.int 0)) (tCons (tOp (mAddG K) (mVar 2) (tOp (rIxA K) (tLst (tCons (tC (.int 1)) (tCons (tUn mNeg (tC (.int 1))) (tNil)))) (tOp (mMod) (tOp (mFdivB) (mVar 3) (tC (.int 5))) (tC (.int 2))))) (tNil)))) (gName 2)) (tNext)) (R_law_4 K A)
def R_law_2 (K : PySem.W.Frag) (A : Adr) : TS := tSeq (tAsg (tCallX (sp__law_cell_at K A) (fun _ => E0) (tCons (mVar 0) (tCons (tC (.int 1)) (tNil)))) (gName 3)) (R_law_3 K A)
def T_law (K : PySem.W.Frag) (A : Adr) : TS := tSeq (tAsg (tCallX (sp__law_word K A) (fun _ => E0) (tCons (tCallX (sp__law_cell_at K A) (fun _ => E0) (tCons (mVar 0) (tCons (tC (.int 0)) (tNil)))) (tNil))) (gName 1)) (tSeq (tAsg (tCB (kMax) (tCons (tC (.int 0)) (tCons (tCallX (sp__law_wanted K A) (fun _ => E0) (tCons (mVar 1) (tNil))) (tNil)))) (gName 2)) (tSeq (tAsg (tCallX (sp__law_cell_at K A) (fun _ => E0) (tCons (mVar 0) (tCons (tC (.int 1)) (tNil)))) (gName 3)) (tSeq (mIfS (mTest (tOp (mEqC K) (tOp (mMod) (mVar 3) (tC (.int 5))) (tC (.int 4)))) (tAsg (tCB (kMax) (tCons (tC (.int 0)) (tCons (tOp (mAddG K) (mVar 2) (tOp (rIxA K) (tLst (tCons (tC (.int 1)) (tCons (tUn mNeg (tC (.int 1))) (tNil)))) (tOp (mMod) (tOp (mFdivB) (mVar 3) (tC (.int 5))) (tC (.int 2))))) (tNil)))) (gName 2)) (tNext)) (tSeq (tAsg (tOp (mAddG K) (tLst (tCons (mVar 1) (tNil))) (tComp [0] (iRng1 (tCons (mVar 2) (tNil))) (fun _ H Q => Q true H) (tCallX (sp__law_number K A) (fun _ => E0) (tCons (tCallX (sp__law_cell_at K A) (fun _ => E0) (tCons (mVar 1) (tCons (tOp (mAddG K) (tC (.int 3)) (mVar 0)) (tNil)))) (tNil))))) (gName 4)) (tSeq (mIfS (mAnd (mOr (mTest (tOp (mEqC K) (mVar 1) (tC (.str "put")))) (mTest (tOp (mEqC K) (mVar 1) (tC (.str "bend"))))) (mTest (tOp (mGt) (tOp (mMod) (tOp (mFdivB) (mVar 3) (tC (.int 10))) (tC (.int 6))) (tC (.int 0))))) (tSeq (tAsg (tCallX (sp__law_cell_at K A) (fun _ => E0) (tCons (mVar 0) (tCons (tC (.int 2)) (tNil)))) (gName 5)) (tSeq (tAsg (tCallX (sp__law_signs K A) (fun _ => E0) (tCons (mVar 5) (tCons (tOp (mMod) (mVar 5) (tC (.int 79))) (tNil)))) (gName 6)) (tDrop (tBM K "list" rAppend (mVar 4) (tCons (tOp (rIxA K) (tLst (tCons (mVar 6) (tCons (tOp (mAddG K) (tC (.str " ")) (mVar 6)) (tCons (tOp (mAddG K) (mVar 6) (tC (.str " "))) (tCons (tOp (mAddG K) (tOp (mAddG K) (tC (.str " ")) (mVar 6)) (tC (.str "  "))) (tNil)))))) (tOp (mMod) (tOp (mFdivB) (mVar 5) (tC (.int 79))) (tC (.int 4)))) (tNil)))))) (tNext)) (tSeq (tAsg (tBM K "str" rJoin (tC (.str " ")) (tCons (mVar 4) (tNil))) (gName 7)) (tSeq (mIfS (mTest (tOp (mEqC K) (tOp (mMod) (tOp (mFdivB) (mVar 3) (tC (.int 60))) (tC (.int 5))) (tC (.int 4)))) (tAsg (tCallX (sp__law_spoiled K A) (fun _ => E0) (tCons (mVar 7) (tCons (tCallX (sp__law_cell_at K A) (fun _ => E0) (tCons (mVar 0) (tCons (tC (.int 9)) (tNil)))) (tNil)))) (gName 7)) (tNext)) (tSeq (mIfS (mTest (tOp (mEqC K) (tOp (mMod) (tOp (mFdivB) (mVar 3) (tC (.int 300))) (tC (.int 16))) (tC (.int 7)))) (tRet (tCallX (sp__law_refused K A) (fun _ => E0) (tCons (tOp (rIxA K) (tLst (tCons (tC .non) (tCons (tC (.int 3)) (tCons (tC (.bl true)) (tCons (tLst (tCons (mVar 7) (tNil))) (tCons (tTup (tCons (mVar 7) (tCons (tLst (tNil)) (tNil)))) (tCons (tDNewA) (tNil)))))))) (tOp (mMod) (tOp (mFdivB) (mVar 3) (tC (.int 4800))) (tC (.int 6)))) (tNil)))) (tNext)) (tSeq (tAsg (tCallX (sp__law_due K A) (fun _ => E0) (tCons (mVar 7) (tNil))) (gName 8)) (tSeq (mIfS (mTest (tOp (mIsA) (mVar 8) (tC .non))) (tRet (tCallX (sp__law_refused K A) (fun _ => E0) (tCons (mVar 7) (tNil)))) (tNext)) (tRet (tCallX (sp__law_alike K A) (fun _ => E0) (tCons (tCallX (sp_row_read K A) (fun _ => E0) (tCons (mVar 7) (tNil))) (tCons (mVar 8) (tNil)))))))))))))))
end Rs
namespace Rs
open PySem PySem.Spec PyProof.Rows L2
theorem tm__law_word_0 {P : Program} {w : World} {K : PySem.W.Frag} {mg : Str → Option Value} {base : Heap} {A : Adr} (T : Txt K mg A)  (cdv : Value) (Ar : Around) (outer : List Env) (s : Shared) (H : Hp) (E : XK)
    (hr : Room 0 (Ar.deeper (envOfC "_law_word" (defScope s__law_word) s.heap.objs.size A.a__law_word cdv))) : QS (cxOf (CX1 P w) P w K mg base ["_law_cell", "_law_some", "_law_odd"] "_law_word" (defScope s__law_word) A.a__law_word cdv Ar outer s H E).nox (sAt 0 (defBody s__law_word)) (tAsg (tLst (tCons (tC (.str "put")) (tCons (tC (.str "take")) (tCons (tC (.str "make")) (tCons (tC (.str "split")) (tCons (tC (.str "bend")) (tCons (tC (.str "seat")) (tCons (tC (.str "follow")) (tCons (tC (.str "ask")) (tCons (tC (.str "span")) (tCons (tC (.str "meet")) (tCons (tC (.str "lies")) (tNil))))))))))))) (gName 1)) :=
  x_set 1 sc__law_word.nd (x_lst (x_cons (x_str) (x_cons (x_str) (x_cons (x_str) (x_cons (x_str) (x_cons (x_str) (x_cons (x_str) (x_cons (x_str) (x_cons (x_str) (x_cons (x_str) (x_cons (x_str) (x_cons (x_str) (x_nil)))))))))))))
theorem tm__law_word_1 {P : Program} {w : World} {K : PySem.W.Frag} {mg : Str → Option Value} {base : Heap} {A : Adr} (T : Txt K mg A)  (cdv : Value) (Ar : Around) (outer : List Env) (s : Shared) (H : Hp) (E : XK)
    (hr : Room 0 (Ar.deeper (envOfC "_law_word" (defScope s__law_word) s.heap.objs.size A.a__law_word cdv))) : QS (cxOf (CX1 P w) P w K mg base ["_law_cell", "_law_some", "_law_odd"] "_law_word" (defScope s__law_word) A.a__law_word cdv Ar outer s H E).nox (sAt 1 (defBody s__law_word)) (tAsg (tLst (tCons (tC (.str "")) (tCons (tC (.str "Put")) (tCons (tC (.str "puts")) (tCons (tC (.str "pu")) (tCons (tC (.str "lie")) (tCons (tC (.str "asks")) (tCons (tC (.str "ma ke")) (tCons (tC (.str "held")) (tNil)))))))))) (gName 2)) :=
  x_set 2 sc__law_word.nd (x_lst (x_cons (x_str) (x_cons (x_str) (x_cons (x_str) (x_cons (x_str) (x_cons (x_str) (x_cons (x_str) (x_cons (x_str) (x_cons (x_str) (x_nil))))))))))
theorem tm__law_word_2 {P : Program} {w : World} {K : PySem.W.Frag} {mg : Str → Option Value} {base : Heap} {A : Adr} (T : Txt K mg A)  (cdv : Value) (Ar : Around) (outer : List Env) (s : Shared) (H : Hp) (E : XK)
    (hr : Room 0 (Ar.deeper (envOfC "_law_word" (defScope s__law_word) s.heap.objs.size A.a__law_word cdv))) : QS (cxOf (CX1 P w) P w K mg base ["_law_cell", "_law_some", "_law_odd"] "_law_word" (defScope s__law_word) A.a__law_word cdv Ar outer s H E).nox (sAt 2 (defBody s__law_word)) (mIfS (mTest (tOp (mEqC K) (tOp (mMod) (mVar 0) (tC (.int 6))) (tC (.int 5)))) (tRet (tOp (rIxA K) (mVar 2) (tOp (mMod) (tOp (mFdivB) (mVar 0) (tC (.int 6))) (tC (.int 8))))) (tNext)) :=
  x_ifS (x_tcmp (oEqC hr.units150) (x_op oMod (x_var 0) (x_int)) (x_int)) (x_sone (x_ret (x_ix (ix_any hr.units1) (x_var 2) (x_op oMod (x_op oFdivB (x_var 0) (x_int)) (x_int)) (fun _ _ => rfl)))) (x_snil)
theorem tm__law_word_3 {P : Program} {w : World} {K : PySem.W.Frag} {mg : Str → Option Value} {base : Heap} {A : Adr} (T : Txt K mg A)  (cdv : Value) (Ar : Around) (outer : List Env) (s : Shared) (H : Hp) (E : XK)
    (hr : Room 0 (Ar.deeper (envOfC "_law_word" (defScope s__law_word) s.heap.objs.size A.a__law_word cdv))) : QS (cxOf (CX1 P w) P w K mg base ["_law_cell", "_law_some", "_law_odd"] "_law_word" (defScope s__law_word) A.a__law_word cdv Ar outer s H E).nox (sAt 3 (defBody s__law_word)) (tRet (tOp (rIxA K) (mVar 1) (tOp (mMod) (tOp (mFdivB) (mVar 0) (tC (.int 6))) (tC (.int 11))))) :=
  x_ret (x_ix (ix_any hr.units1) (x_var 1) (x_op oMod (x_op oFdivB (x_var 0) (x_int)) (x_int)) (fun _ _ => rfl))
theorem qm__law_word {P : Program} {w : World} {K : PySem.W.Frag} {mg : Str → Option Value} {base : Heap} {A : Adr} (T : Txt K mg A)  (cdv : Value) (Ar : Around) (outer : List Env) (s : Shared) (H : Hp) (E : XK)
    (hr : Room 0 (Ar.deeper (envOfC "_law_word" (defScope s__law_word) s.heap.objs.size A.a__law_word cdv))) : QSs (cxOf (CX1 P w) P w K mg base ["_law_cell", "_law_some", "_law_odd"] "_law_word" (defScope s__law_word) A.a__law_word cdv Ar outer s H E).nox (defBody s__law_word) (T__law_word K A) := (
  x_scons (tm__law_word_0 T  cdv Ar outer s H E hr) (x_scons (tm__law_word_1 T  cdv Ar outer s H E hr) (x_scons (tm__law_word_2 T  cdv Ar outer s H E hr) (x_sone (tm__law_word_3 T  cdv Ar outer s H E hr)))))
theorem tm__law_cell_at {P : Program} {w : World} {K : PySem.W.Frag} {mg : Str → Option Value} {base : Heap} {A : Adr} (T : Txt K mg A)  (cdv : Value) (Ar : Around) (outer : List Env) (s : Shared) (H : Hp) (E : XK)
    (hr : Room 0 (Ar.deeper (envOfC "_law_cell_at" (defScope s__law_cell_at) s.heap.objs.size A.a__law_cell_at cdv))) : PSs (cxOf (CX1 P w) P w K mg base ["_law_script", "_law_k"] "_law_cell_at" (defScope s__law_cell_at) A.a__law_cell_at cdv Ar outer s H E).nox (defBody s__law_cell_at) (T__law_cell_at K A) := QSs.out (
  x_scons (x_ifS (x_tcmp oLt (x_var 1) (x_callB cLenA T.z_len PySem.boot_len (x_cons (x_var 0) (x_nil)))) (x_sone (x_ret (x_ix (ix_any hr.units1) (x_var 0) (x_var 1) (fun _ _ => rfl)))) (x_snil)) (x_sone (x_ret (x_int))))
theorem tm__law_wanted_0 {P : Program} {w : World} {K : PySem.W.Frag} {mg : Str → Option Value} {base : Heap} {A : Adr} (T : Txt K mg A)  (cdv : Value) (Ar : Around) (outer : List Env) (s : Shared) (H : Hp) (E : XK)
    (hr : Room 0 (Ar.deeper (envOfC "_law_wanted" (defScope s__law_wanted) s.heap.objs.size A.a__law_wanted cdv))) : QS (cxOf (CX1 P w) P w K mg base ["_law_word_here", "_law_wanted_here"] "_law_wanted" (defScope s__law_wanted) A.a__law_wanted cdv Ar outer s H E).nox (sAt 0 (defBody s__law_wanted)) (tAsg (tDisp ((tC (.str "put"), tC (.int 2)) :: (tC (.str "take"), tC (.int 2)) :: (tC (.str "make"), tC (.int 1)) :: (tC (.str "split"), tC (.int 1)) :: (tC (.str "bend"), tC (.int 1)) :: (tC (.str "seat"), tC (.int 1)) :: (tC (.str "follow"), tC (.int 1)) :: [])) (gName 1)) :=
  x_set 1 sc__law_wanted.nd (x_disp (x_pcons (x_str) (x_int) (x_pcons (x_str) (x_int) (x_pcons (x_str) (x_int) (x_pcons (x_str) (x_int) (x_pcons (x_str) (x_int) (x_pcons (x_str) (x_int) (x_pcons (x_str) (x_int) (x_pnil)))))))))
theorem tm__law_wanted_1 {P : Program} {w : World} {K : PySem.W.Frag} {mg : Str → Option Value} {base : Heap} {A : Adr} (T : Txt K mg A)  (cdv : Value) (Ar : Around) (outer : List Env) (s : Shared) (H : Hp) (E : XK)
    (hr : Room 0 (Ar.deeper (envOfC "_law_wanted" (defScope s__law_wanted) s.heap.objs.size A.a__law_wanted cdv))) : QS (cxOf (CX1 P w) P w K mg base ["_law_word_here", "_law_wanted_here"] "_law_wanted" (defScope s__law_wanted) A.a__law_wanted cdv Ar outer s H E).nox (sAt 1 (defBody s__law_wanted)) (tDrop (tBM K "dict" rUpd (mVar 1) (tCons (tDisp ((tC (.str "ask"), tC (.int 3)) :: (tC (.str "span"), tC (.int 4)) :: (tC (.str "meet"), tC (.int 2)) :: (tC (.str "lies"), tC (.int 0)) :: [])) (tNil)))) :=
  x_drop (x_bm PySem.F.plainAttrs_dict PySem.F.slot_dict_update PySem.F.type_dict_update mt_upd (x_var 1) (x_cons (x_disp (x_pcons (x_str) (x_int) (x_pcons (x_str) (x_int) (x_pcons (x_str) (x_int) (x_pcons (x_str) (x_int) (x_pnil)))))) (x_nil)))
theorem tm__law_wanted_2 {P : Program} {w : World} {K : PySem.W.Frag} {mg : Str → Option Value} {base : Heap} {A : Adr} (T : Txt K mg A)  (cdv : Value) (Ar : Around) (outer : List Env) (s : Shared) (H : Hp) (E : XK)
    (hr : Room 0 (Ar.deeper (envOfC "_law_wanted" (defScope s__law_wanted) s.heap.objs.size A.a__law_wanted cdv))) : QS (cxOf (CX1 P w) P w K mg base ["_law_word_here", "_law_wanted_here"] "_law_wanted" (defScope s__law_wanted) A.a__law_wanted cdv Ar outer s H E).nox (sAt 2 (defBody s__law_wanted)) (tRet (tBM K "dict" rGet2 (mVar 1) (tCons (mVar 0) (tCons (tUn mNeg (tC (.int 1))) (tNil))))) :=
  x_ret (x_bm PySem.F.plainAttrs_dict PySem.F.slot_dict_get PySem.F.type_dict_get (mt_get2 hr.units1) (x_var 1) (x_cons (x_var 0) (x_cons (x_neg (x_int)) (x_nil))))
theorem qm__law_wanted {P : Program} {w : World} {K : PySem.W.Frag} {mg : Str → Option Value} {base : Heap} {A : Adr} (T : Txt K mg A)  (cdv : Value) (Ar : Around) (outer : List Env) (s : Shared) (H : Hp) (E : XK)
    (hr : Room 0 (Ar.deeper (envOfC "_law_wanted" (defScope s__law_wanted) s.heap.objs.size A.a__law_wanted cdv))) : QSs (cxOf (CX1 P w) P w K mg base ["_law_word_here", "_law_wanted_here"] "_law_wanted" (defScope s__law_wanted) A.a__law_wanted cdv Ar outer s H E).nox (defBody s__law_wanted) (T__law_wanted K A) := (
  x_scons (tm__law_wanted_0 T  cdv Ar outer s H E hr) (x_scons (tm__law_wanted_1 T  cdv Ar outer s H E hr) (x_sone (tm__law_wanted_2 T  cdv Ar outer s H E hr))))
theorem tm__law_number {P : Program} {w : World} {K : PySem.W.Frag} {mg : Str → Option Value} {base : Heap} {A : Adr} (T : Txt K mg A)  (cdv : Value) (Ar : Around) (outer : List Env) (s : Shared) (H : Hp) (E : XK)
    (hr : Room 0 (Ar.deeper (envOfC "_law_number" (defScope s__law_number) s.heap.objs.size A.a__law_number cdv))) : PSs (cxOf (CX1 P w) P w K mg base ["_law_cell", "_law_number_here", "_law_some"] "_law_number" (defScope s__law_number) A.a__law_number cdv Ar outer s H E).nox (defBody s__law_number) (T__law_number K A) := QSs.out (
  x_scons (x_set 1 sc__law_number.nd (x_op oFdivB (x_var 0) (x_int))) (x_scons (x_ifS (x_tcmp oLt (x_op oMod (x_var 0) (x_int)) (x_int)) (x_sone (x_ret (x_callTy cStr T.z_str boot_str (x_cons (x_op oMod (x_var 1) (x_ix (ix_any hr.units1) (x_lst (x_cons (x_int) (x_cons (x_int) (x_cons (x_op oPow (x_int) (x_int)) (x_cons (x_op oPow (x_int) (x_int)) (x_cons (x_int) (x_nil))))))) (x_op oMod (x_var 0) (x_int)) (fun _ _ => rfl))) (x_nil))))) (x_snil)) (x_scons (x_set 2 sc__law_number.nd (x_lst (x_cons (x_str) (x_cons (x_str) (x_cons (x_str) (x_cons (x_str) (x_cons (x_str) (x_cons (x_str) (x_cons (x_str) (x_cons (x_str) (x_cons (x_callTy cStr T.z_str boot_str (x_cons (x_op oAddG (x_op oPow (x_int) (x_int)) (x_op oMod (x_var 1) (x_int))) (x_nil))) (x_cons (x_str) (x_cons (x_str) (x_nil)))))))))))))) (x_sone (x_ret (x_ix (ix_any hr.units1) (x_var 2) (x_op oMod (x_var 1) (x_int)) (fun _ _ => rfl)))))))
theorem tm__law_signs {P : Program} {w : World} {K : PySem.W.Frag} {mg : Str → Option Value} {base : Heap} {A : Adr} (T : Txt K mg A)  (cdv : Value) (Ar : Around) (outer : List Env) (s : Shared) (H : Hp) (E : XK)
    (hr : Room 0 (Ar.deeper (envOfC "_law_signs" (defScope s__law_signs) s.heap.objs.size A.a__law_signs cdv))) : PSs (cxOf (CX1 P w) P w K mg base ["_law_cell", "_law_many", "_law_some", "_law_found", "_law_number_here", "_law_k"] "_law_signs" (defScope s__law_signs) A.a__law_signs cdv Ar outer s H E).nox (defBody s__law_signs) (T__law_signs K A) := QSs.out (
  x_scons (x_set 2 sc__law_signs.nd (x_str)) (x_scons (x_set 3 sc__law_signs.nd (x_lst (x_nil))) (x_scons (x_set 4 sc__law_signs.nd (x_op oMod (x_var 0) (x_int))) (x_scons (x_for 5 sc__law_signs.nd (x_range1 T.z_range (x_cons (x_var 1) (x_nil))) (x_scons (x_set 4 sc__law_signs.nd (x_op oMod (x_op oAddG (x_op oAddG (x_op oMulB (x_var 4) (x_int)) (x_var 5)) (x_int)) (x_int))) (x_sone (x_drop (x_bm PySem.F.plainAttrs_list PySem.F.slot_list_append PySem.F.type_list_append mt_append (x_var 3) (x_cons (x_ix (ix_any hr.units1) (x_var 2) (x_op oMod (x_var 4) (x_int)) (fun _ _ => rfl)) (x_nil)))))) PassesOwn.never) (x_sone (x_ret (x_bm PySem.F.plainAttrs_str PySem.F.slot_str_join PySem.F.type_str_join mt_join (x_str) (x_cons (x_var 3) (x_nil)))))))))
theorem tm__law_spoiled {P : Program} {w : World} {K : PySem.W.Frag} {mg : Str → Option Value} {base : Heap} {A : Adr} (T : Txt K mg A)  (cdv : Value) (Ar : Around) (outer : List Env) (s : Shared) (H : Hp) (E : XK)
    (hr : Room 0 (Ar.deeper (envOfC "_law_spoiled" (defScope s__law_spoiled) s.heap.objs.size A.a__law_spoiled cdv))) : PSs (cxOf (CX1 P w) P w K mg base ["_law_row", "_law_cell", "_law_at", "_law_blanks"] "_law_spoiled" (defScope s__law_spoiled) A.a__law_spoiled cdv Ar outer s H E).nox (defBody s__law_spoiled) (T__law_spoiled K A) := QSs.out (
  x_scons (x_set 2 sc__law_spoiled.nd (x_op oMod (x_op oFdivB (x_var 1) (x_int)) (x_op oAddG (x_callB cLenA T.z_len PySem.boot_len (x_cons (x_var 0) (x_nil))) (x_int)))) (x_scons (x_ifS (x_tcmp (oEqC hr.units150) (x_op oMod (x_var 1) (x_int)) (x_int)) (x_sone (x_ret (x_op oAddG (x_op oAddG (x_slice sl_all (x_var 0) (x_onone) (x_osome (x_var 2))) (x_str)) (x_slice sl_all (x_var 0) (x_osome (x_var 2)) (x_onone))))) (x_snil)) (x_scons (x_setComp (ys := ["_law_row"]) 3 sc__law_spoiled.nd (by exact ⟨rfl, by decide +kernel, by decide +kernel, rfl, by decide +kernel, by decide +kernel⟩) (by exact .cons rfl (by first | exact .inl rfl | exact .inr rfl) rfl (.nil)) (x_range1 T.z_range (x_cons (x_callB cLenA T.z_len PySem.boot_len (x_cons (x_var 0) (x_nil))) (x_nil))) (fun C s H fp => x_oneif (x_tcmp (oEqC hr.units150) (x_ix (ix_any hr.units1) (x_var 1) (x_var 0) (fun _ _ => rfl)) (x_str))) (fun C s H fp => (x_var 0))) (x_scons (x_ifS (x_tcmp (oEqC hr.units150) (x_var 3) (x_lst (x_nil))) (x_sone (x_ret (x_op oAddG (x_var 0) (x_str)))) (x_snil)) (x_scons (x_set 2 sc__law_spoiled.nd (x_ix (ix_any hr.units1) (x_var 3) (x_op oMod (x_op oFdivB (x_var 1) (x_int)) (x_callB cLenA T.z_len PySem.boot_len (x_cons (x_var 3) (x_nil)))) (fun _ _ => rfl))) (x_sone (x_ret (x_op oAddG (x_slice sl_all (x_var 0) (x_onone) (x_osome (x_var 2))) (x_slice sl_all (x_var 0) (x_osome (x_op oAddG (x_var 2) (x_int))) (x_onone))))))))))
theorem tm_figures_end {P : Program} {w : World} {K : PySem.W.Frag} {mg : Str → Option Value} {base : Heap} {A : Adr} (T : Txt K mg A)  (cdv : Value) (Ar : Around) (outer : List Env) (s : Shared) (H : Hp) (E : XK)
    (hr : Room 0 (Ar.deeper (envOfC "figures_end" (defScope s_figures_end) s.heap.objs.size A.a_figures_end cdv))) : PSs (cxOf (CX1 P w) P w K mg base ["text", "begin", "end"] "figures_end" (defScope s_figures_end) A.a_figures_end cdv Ar outer s H E).nox (defBody s_figures_end) (T_figures_end K A) := QSs.out (
  x_scons (x_set 2 sc_figures_end.nd (x_var 1)) (x_scons (x_while (x_w (x_wand (x_tcmp oLt (x_var 2) (x_callB cLenA T.z_len PySem.boot_len (x_cons (x_var 0) (x_nil)))) (x_wand1 (x_tcmp (oInA hr.units150) (x_ix (ix_any hr.units1) (x_var 0) (x_var 2) (fun _ _ => rfl)) (x_gs T.c_FIGURES))))) (x_sone (x_set 2 sc_figures_end.nd (x_op oAddG (x_var 2) (x_int)))) PassesOwn.never) (x_sone (x_ret (x_var 2)))))
theorem tm_is_number {P : Program} {w : World} {K : PySem.W.Frag} {mg : Str → Option Value} {base : Heap} {A : Adr} (T : Txt K mg A) (G_figures_end : FnOk P w K mg base (CX1 P w) 1 A.a_figures_end A.d_figures_end ["text", "begin"] (sp_figures_end K A)) (cdv : Value) (Ar : Around) (outer : List Env) (s : Shared) (H : Hp) (E : XK)
    (hr : Room 1 (Ar.deeper (envOfC "is_number" (defScope s_is_number) s.heap.objs.size A.a_is_number cdv))) : PSs (cxOf (CX1 P w) P w K mg base ["text", "most"] "is_number" (defScope s_is_number) A.a_is_number cdv Ar outer s H E).nox (defBody s_is_number) (T_is_number K A) := QSs.out (
  x_scons (x_ifS (x_w (x_wor (x_tnot (x_tchain oLe oLe (x_int) (x_callB cLenA T.z_len PySem.boot_len (x_cons (x_var 0) (x_nil))) (x_var 1))) (x_wor1 (x_tcmp (oNeB hr.units150) (x_callX G_figures_end (hr.mono (by decide)) T.m_figures_end T.f_figures_end.kp T.b_figures_end passF (x_cons (x_var 0) (x_cons (x_int) (x_nil)))) (x_callB cLenA T.z_len PySem.boot_len (x_cons (x_var 0) (x_nil))))))) (x_sone (x_ret (x_bl))) (x_snil)) (x_sone (x_ret (x_or (x_cmp (oEqC hr.units150) (x_var 0) (x_str)) (x_one (x_cmp (oNeB hr.units150) (x_ix (ix_any hr.units1) (x_var 0) (x_int) (fun _ _ => rfl)) (x_str)))))))
theorem tm_number_read {P : Program} {w : World} {K : PySem.W.Frag} {mg : Str → Option Value} {base : Heap} {A : Adr} (T : Txt K mg A) (G_is_number : FnOk P w K mg base (CX1 P w) 2 A.a_is_number A.d_is_number ["text", "most"] (sp_is_number K A)) (cdv : Value) (Ar : Around) (outer : List Env) (s : Shared) (H : Hp) (E : XK)
    (hr : Room 2 (Ar.deeper (envOfC "number_read" (defScope s_number_read) s.heap.objs.size A.a_number_read cdv))) : PSs (cxOf (CX1 P w) P w K mg base ["figures"] "number_read" (defScope s_number_read) A.a_number_read cdv Ar outer s H E) (defBody s_number_read) (T_number_read K A E) := QSs.out (
  x_scons (x_ifS (x_tnot (x_test (x_callX G_is_number (hr.mono (by decide)) T.m_is_number T.f_is_number.kp T.b_is_number passF (x_cons (x_var 0) (x_cons (x_gi T.c_MOST_FIGURES) (x_nil)))))) (x_sone (x_raise T.eo_NoRow T.mc_NoRow raise_def)) (x_snil)) (x_sone (x_ret (x_callTy cInt T.z_int L2.bt_int (x_cons (x_var 0) (x_nil))))))
theorem tm_numbers_read {P : Program} {w : World} {K : PySem.W.Frag} {mg : Str → Option Value} {base : Heap} {A : Adr} (T : Txt K mg A) (G_number_read : FnOk P w K mg base (CX1 P w) 3 A.a_number_read A.d_number_read ["figures"] (sp_number_read K A)) (cdv : Value) (Ar : Around) (outer : List Env) (s : Shared) (H : Hp) (E : XK)
    (hr : Room 3 (Ar.deeper (envOfC "numbers_read" (defScope s_numbers_read) s.heap.objs.size A.a_numbers_read cdv))) : PSs (cxOf (CX1 P w) P w K mg base ["many", "parts"] "numbers_read" (defScope s_numbers_read) A.a_numbers_read cdv Ar outer s H E) (defBody s_numbers_read) (T_numbers_read K A E) := QSs.out (
  x_scons (x_ifS (x_tcmp (oNeB hr.units150) (x_callB cLenA T.z_len PySem.boot_len (x_cons (x_var 1) (x_nil))) (x_var 0)) (x_sone (x_raise T.eo_NoRow T.mc_NoRow raise_def)) (x_snil)) (x_sone (x_ret (x_compX (ys := []) passL_def (by exact ⟨rfl, by decide +kernel, by decide +kernel, rfl, by decide +kernel, by decide +kernel⟩) (by exact .nil) (x_seqA (x_var 1)) (fun C s H fp Ec EH hEH => (x_callX G_number_read (hr.mono (by decide)) T.m_number_read T.f_number_read.kp T.b_number_read hEH (x_cons (x_var 0) (x_nil))))))))
theorem tm_row_read {P : Program} {w : World} {K : PySem.W.Frag} {mg : Str → Option Value} {base : Heap} {A : Adr} (T : Txt K mg A) (G_numbers_read : FnOk P w K mg base (CX1 P w) 4 A.a_numbers_read A.d_numbers_read ["many", "parts"] (sp_numbers_read K A)) (cdv : Value) (Ar : Around) (outer : List Env) (s : Shared) (H : Hp) (E : XK)
    (hr : Room 4 (Ar.deeper (envOfC "row_read" (defScope s_row_read) s.heap.objs.size A.a_row_read cdv))) : PSs (cxOf (CX1 P w) P w K mg base ["row", "word", "many", "parts"] "row_read" (defScope s_row_read) A.a_row_read cdv Ar outer s H E) (defBody s_row_read) (T_row_read K A E) := QSs.out (
  x_scons (x_ifS (x_tnot (x_test (x_callB cIsi T.z_isinstance boot_isinstance (x_cons (x_var 0) (x_cons (x_ty T.z_str boot_str) (x_nil)))))) (x_sone (x_raise T.eo_NoRow T.mc_NoRow raise_def)) (x_snil)) (x_scons (x_set 1 sc_row_read.nd (x_ix (ix_any hr.units1) (x_bm PySem.F.plainAttrs_str PySem.F.slot_str_partition PySem.F.type_str_partition mt_partn (x_var 0) (x_cons (x_str) (x_nil))) (x_int) (fun _ _ => rfl))) (x_scons (x_ifS (x_tcmp op_notInK (x_var 1) (x_gc T.mo_WANTED)) (x_sone (x_raise T.eo_NoRow T.mc_NoRow raise_def)) (x_snil)) (x_scons (x_set 2 sc_row_read.nd (x_ix ix_K (x_gc T.mo_WANTED) (x_var 1) (fun _ _ => rfl))) (x_scons (x_ifS (x_tcmp (oNotInA hr.units150) (x_var 1) (x_gc T.mo_WITH_TEXT)) (x_sone (x_ret (x_tup (x_cons (x_var 1) (x_cons (x_callX G_numbers_read (hr.mono (by decide)) T.m_numbers_read T.f_numbers_read.kp T.b_numbers_read pass_def (x_cons (x_var 2) (x_cons (x_slice sl_all (x_bm PySem.F.plainAttrs_str PySem.F.slot_str_split PySem.F.type_str_split mt_split (x_var 0) (x_cons (x_str) (x_nil))) (x_osome (x_int)) (x_onone)) (x_nil)))) (x_cons (x_str) (x_nil))))))) (x_snil)) (x_scons (x_set 3 sc_row_read.nd (x_bm PySem.F.plainAttrs_str PySem.F.slot_str_split PySem.F.type_str_split mt_split (x_var 0) (x_cons (x_str) (x_cons (x_op oAddG (x_var 2) (x_int)) (x_nil))))) (x_sone (x_ret (x_tup (x_cons (x_var 1) (x_cons (x_callX G_numbers_read (hr.mono (by decide)) T.m_numbers_read T.f_numbers_read.kp T.b_numbers_read pass_def (x_cons (x_var 2) (x_cons (x_slice sl_all (x_var 3) (x_osome (x_int)) (x_osome (x_neg (x_int)))) (x_nil)))) (x_cons (x_ix (ix_any hr.units1) (x_var 3) (x_neg (x_int)) (fun _ _ => rfl)) (x_nil)))))))))))))
theorem tm__law_refused {P : Program} {w : World} {K : PySem.W.Frag} {mg : Str → Option Value} {base : Heap} {A : Adr} (T : Txt K mg A) (G_row_read : FnOk P w K mg base (CX1 P w) 5 A.a_row_read A.d_row_read ["row"] (sp_row_read K A)) (cdv : Value) (Ar : Around) (outer : List Env) (s : Shared) (H : Hp) (E : XK)
    (hr : Room 5 (Ar.deeper (envOfC "_law_refused" (defScope s__law_refused) s.heap.objs.size A.a__law_refused cdv))) : PSs (cxOf (CX1 P w) P w K mg base ["_law_thing", "e"] "_law_refused" (defScope s__law_refused) A.a__law_refused cdv Ar outer s H E).nox (defBody s__law_refused) (T__law_refused K A) := QSs.out (
  x_scons (x_try (fun pn' E' EH hEH => x_sone (x_drop (x_callX G_row_read (hr.mono (by decide)) T.m_row_read T.f_row_read.kp T.b_row_read hEH (x_cons (x_var 0) (x_nil))))) (x_has 1 sc__law_refused.nd T.eo_StampError T.mc_StampError (fun a => x_sone (x_ret (x_callB cIsiE T.z_isinstance boot_isinstance (x_cons (x_var 1) (x_cons (x_gc T.mc_NoRow) (x_nil)))))) (x_hnil)) (x_snil)) (x_sone (x_ret (x_bl))))
theorem tm__law_figures {P : Program} {w : World} {K : PySem.W.Frag} {mg : Str → Option Value} {base : Heap} {A : Adr} (T : Txt K mg A)  (cdv : Value) (Ar : Around) (outer : List Env) (s : Shared) (H : Hp) (E : XK)
    (hr : Room 0 (Ar.deeper (envOfC "_law_figures" (defScope s__law_figures) s.heap.objs.size A.a__law_figures cdv))) : PSs (cxOf (CX1 P w) P w K mg base ["_law_word_here"] "_law_figures" (defScope s__law_figures) A.a__law_figures cdv Ar outer s H E).nox (defBody s__law_figures) (T__law_figures K A) := QSs.out (
  x_scons (x_ifS (x_w (x_wor (x_tcmp (oEqC hr.units150) (x_var 0) (x_str)) (x_wor (x_tcmp oGt (x_callB cLenA T.z_len PySem.boot_len (x_cons (x_var 0) (x_nil))) (x_int)) (x_wor1 (x_w (x_wand (x_tcmp (oEqC hr.units150) (x_ix (ix_any hr.units1) (x_var 0) (x_int) (fun _ _ => rfl)) (x_str)) (x_wand1 (x_tcmp (oNeB hr.units150) (x_var 0) (x_str))))))))) (x_sone (x_ret (x_bl))) (x_snil)) (x_sone (x_ret (x_cmp (oEqC hr.units150) (x_callB cLenA T.z_len PySem.boot_len (x_cons (x_comp (ys := []) (by exact ⟨rfl, by decide +kernel, by decide +kernel, rfl, by decide +kernel, by decide +kernel⟩) (by exact .nil) (x_seqA (x_var 0)) (fun C s H fp => x_oneif (x_tcmp (oInA hr.units150) (x_var 0) (x_str))) (fun C s H fp => (x_var 0))) (x_nil))) (x_callB cLenA T.z_len PySem.boot_len (x_cons (x_var 0) (x_nil)))))))
theorem tm__law_due {P : Program} {w : World} {K : PySem.W.Frag} {mg : Str → Option Value} {base : Heap} {A : Adr} (T : Txt K mg A) (G__law_wanted : FnOk P w K mg base (CX1 P w) 1 A.a__law_wanted A.d__law_wanted ["_law_word_here"] (sp__law_wanted K A)) (G__law_figures : FnOk P w K mg base (CX1 P w) 1 A.a__law_figures A.d__law_figures ["_law_word_here"] (sp__law_figures K A)) (cdv : Value) (Ar : Around) (outer : List Env) (s : Shared) (H : Hp) (E : XK)
    (hr : Room 1 (Ar.deeper (envOfC "_law_due" (defScope s__law_due) s.heap.objs.size A.a__law_due cdv))) : PSs (cxOf (CX1 P w) P w K mg base ["_law_row", "_law_words", "_law_many", "_law_ends", "_law_numbers", "_law_word_here"] "_law_due" (defScope s__law_due) A.a__law_due cdv Ar outer s H E).nox (defBody s__law_due) (T__law_due K A) := QSs.out (
  x_scons (x_set 1 sc__law_due.nd (x_bm PySem.F.plainAttrs_str PySem.F.slot_str_split PySem.F.type_str_split mt_split (x_var 0) (x_cons (x_str) (x_nil)))) (x_scons (x_set 2 sc__law_due.nd (x_callX G__law_wanted (hr.mono (by decide)) T.m__law_wanted T.f__law_wanted.kp T.b__law_wanted passF (x_cons (x_ix (ix_any hr.units1) (x_var 1) (x_int) (fun _ _ => rfl)) (x_nil)))) (x_scons (x_set 3 sc__law_due.nd (x_or (x_cmp (oEqC hr.units150) (x_ix (ix_any hr.units1) (x_var 1) (x_int) (fun _ _ => rfl)) (x_str)) (x_one (x_cmp (oEqC hr.units150) (x_ix (ix_any hr.units1) (x_var 1) (x_int) (fun _ _ => rfl)) (x_str))))) (x_scons (x_ifS (x_w (x_wor (x_tcmp oLt (x_var 2) (x_int)) (x_wor (x_tcmp oLt (x_callB cLenA T.z_len PySem.boot_len (x_cons (x_var 1) (x_nil))) (x_op oAddG (x_op oAddG (x_var 2) (x_int)) (x_callTy cInt T.z_int L2.bt_int (x_cons (x_var 3) (x_nil))))) (x_wor1 (x_w (x_wand (x_tnot (x_test (x_var 3))) (x_wand1 (x_tcmp oGt (x_callB cLenA T.z_len PySem.boot_len (x_cons (x_var 1) (x_nil))) (x_op oAddG (x_var 2) (x_int)))))))))) (x_sone (x_ret (x_non))) (x_snil)) (x_scons (x_set 4 sc__law_due.nd (x_lst (x_nil))) (x_scons (x_for 5 sc__law_due.nd (x_seqA (x_slice sl_all (x_var 1) (x_osome (x_int)) (x_osome (x_op oAddG (x_var 2) (x_int))))) (x_scons (x_ifS (x_tnot (x_test (x_callX G__law_figures (hr.mono (by decide)) T.m__law_figures T.f__law_figures.kp T.b__law_figures passF (x_cons (x_var 5) (x_nil))))) (x_sone (x_ret (x_non))) (x_snil)) (x_sone (x_drop (x_bm PySem.F.plainAttrs_list PySem.F.slot_list_append PySem.F.type_list_append mt_append (x_var 4) (x_cons (x_callTy cInt T.z_int L2.bt_int (x_cons (x_var 5) (x_nil))) (x_nil)))))) PassesOwn.never) (x_sone (x_ret (x_tup (x_cons (x_ix (ix_any hr.units1) (x_var 1) (x_int) (fun _ _ => rfl)) (x_cons (x_var 4) (x_cons (x_bm PySem.F.plainAttrs_str PySem.F.slot_str_join PySem.F.type_str_join mt_join (x_str) (x_cons (x_slice sl_all (x_var 1) (x_osome (x_op oAddG (x_var 2) (x_int))) (x_onone)) (x_nil))) (x_nil)))))))))))))
theorem tm__law_alike {P : Program} {w : World} {K : PySem.W.Frag} {mg : Str → Option Value} {base : Heap} {A : Adr} (T : Txt K mg A)  (cdv : Value) (Ar : Around) (outer : List Env) (s : Shared) (H : Hp) (E : XK)
    (hr : Room 0 (Ar.deeper (envOfC "_law_alike" (defScope s__law_alike) s.heap.objs.size A.a__law_alike cdv))) : PSs (cxOf (CX1 P w) P w K mg base ["_law_found", "_law_due_here"] "_law_alike" (defScope s__law_alike) A.a__law_alike cdv Ar outer s H E).nox (defBody s__law_alike) (T__law_alike K A) := QSs.out (
  x_scons (x_ifS (x_w (x_wor (x_tnot (x_test (x_callB cIsi T.z_isinstance boot_isinstance (x_cons (x_var 0) (x_cons (x_ty T.z_tuple boot_tuple) (x_nil)))))) (x_wor (x_tcmp (oNeB hr.units150) (x_callB cLenA T.z_len PySem.boot_len (x_cons (x_var 0) (x_nil))) (x_int)) (x_wor1 (x_tnot (x_test (x_callB cIsi T.z_isinstance boot_isinstance (x_cons (x_ix (ix_any hr.units1) (x_var 0) (x_int) (fun _ _ => rfl)) (x_cons (x_ty T.z_str boot_str) (x_nil)))))))))) (x_sone (x_ret (x_bl))) (x_snil)) (x_scons (x_ifS (x_w (x_wor (x_tnot (x_test (x_callB cIsi T.z_isinstance boot_isinstance (x_cons (x_ix (ix_any hr.units1) (x_var 0) (x_int) (fun _ _ => rfl)) (x_cons (x_ty T.z_list boot_list) (x_nil)))))) (x_wor (x_tnot (x_test (x_callB cIsi T.z_isinstance boot_isinstance (x_cons (x_ix (ix_any hr.units1) (x_var 0) (x_int) (fun _ _ => rfl)) (x_cons (x_ty T.z_str boot_str) (x_nil)))))) (x_wor1 (x_tcmp (oNeB hr.units150) (x_var 0) (x_var 1)))))) (x_sone (x_ret (x_bl))) (x_snil)) (x_sone (x_ret (x_cmp (oEqC hr.units150) (x_callB cLenA T.z_len PySem.boot_len (x_cons (x_comp (ys := []) (by exact ⟨rfl, by decide +kernel, by decide +kernel, rfl, by decide +kernel, by decide +kernel⟩) (by exact .nil) (x_seqA (x_ix (ix_any hr.units1) (x_var 0) (x_int) (fun _ _ => rfl))) (fun C s H fp => x_oneif (x_w (x_wand (x_test (x_callB cIsi T.z_isinstance boot_isinstance (x_cons (x_var 0) (x_cons (x_ty T.z_int boot_int) (x_nil))))) (x_wand1 (x_tnot (x_test (x_callB cIsi T.z_isinstance boot_isinstance (x_cons (x_var 0) (x_cons (x_ty T.z_bool boot_bool) (x_nil)))))))))) (fun C s H fp => (x_var 0))) (x_nil))) (x_callB cLenA T.z_len PySem.boot_len (x_cons (x_ix (ix_any hr.units1) (x_var 1) (x_int) (fun _ _ => rfl)) (x_nil))))))))
theorem tm_law {P : Program} {w : World} {K : PySem.W.Frag} {mg : Str → Option Value} {base : Heap} {A : Adr} (T : Txt K mg A) (G__law_word : FnOk P w K mg base (CX1 P w) 1 A.a__law_word A.d__law_word ["_law_cell"] (sp__law_word K A)) (G__law_cell_at : FnOk P w K mg base (CX1 P w) 1 A.a__law_cell_at A.d__law_cell_at ["_law_script", "_law_k"] (sp__law_cell_at K A)) (G__law_wanted : FnOk P w K mg base (CX1 P w) 1 A.a__law_wanted A.d__law_wanted ["_law_word_here"] (sp__law_wanted K A)) (G__law_number : FnOk P w K mg base (CX1 P w) 1 A.a__law_number A.d__law_number ["_law_cell"] (sp__law_number K A)) (G__law_signs : FnOk P w K mg base (CX1 P w) 1 A.a__law_signs A.d__law_signs ["_law_cell", "_law_many"] (sp__law_signs K A)) (G__law_spoiled : FnOk P w K mg base (CX1 P w) 1 A.a__law_spoiled A.d__law_spoiled ["_law_row", "_law_cell"] (sp__law_spoiled K A)) (G__law_refused : FnOk P w K mg base (CX1 P w) 6 A.a__law_refused A.d__law_refused ["_law_thing"] (sp__law_refused K A)) (G__law_due : FnOk P w K mg base (CX1 P w) 2 A.a__law_due A.d__law_due ["_law_row"] (sp__law_due K A)) (G__law_alike : FnOk P w K mg base (CX1 P w) 1 A.a__law_alike A.d__law_alike ["_law_found", "_law_due_here"] (sp__law_alike K A)) (G_row_read : FnOk P w K mg base (CX1 P w) 5 A.a_row_read A.d_row_read ["row"] (sp_row_read K A)) (cdv : Value) (Ar : Around) (outer : List Env) (s : Shared) (H : Hp) (E : XK)
    (hr : Room 6 (Ar.deeper (envOfC "law" (defScope s_law) s.heap.objs.size A.a_law cdv))) : PSs (cxOf (CX1 P w) P w K mg base ["_law_script", "_law_word_here", "_law_many", "_law_more", "_law_words", "_law_cell", "_law_text", "_law_row", "_law_due_here"] "law" (defScope s_law) A.a_law cdv Ar outer s H E).nox (defBody s_law) (T_law K A) := QSs.out (
  x_scons (x_set 1 sc_law.nd (x_callX G__law_word (hr.mono (by decide)) T.m__law_word T.f__law_word.kp T.b__law_word passF (x_cons (x_callX G__law_cell_at (hr.mono (by decide)) T.m__law_cell_at T.f__law_cell_at.kp T.b__law_cell_at passF (x_cons (x_var 0) (x_cons (x_int) (x_nil)))) (x_nil)))) (x_scons (x_set 2 sc_law.nd (x_callB (cMax rfl) T.z_max boot_max (x_cons (x_int) (x_cons (x_callX G__law_wanted (hr.mono (by decide)) T.m__law_wanted T.f__law_wanted.kp T.b__law_wanted passF (x_cons (x_var 1) (x_nil))) (x_nil))))) (x_scons (x_set 3 sc_law.nd (x_callX G__law_cell_at (hr.mono (by decide)) T.m__law_cell_at T.f__law_cell_at.kp T.b__law_cell_at passF (x_cons (x_var 0) (x_cons (x_int) (x_nil))))) (x_scons (x_ifS (x_tcmp (oEqC hr.units150) (x_op oMod (x_var 3) (x_int)) (x_int)) (x_sone (x_set 2 sc_law.nd (x_callB (cMax rfl) T.z_max boot_max (x_cons (x_int) (x_cons (x_op oAddG (x_var 2) (x_ix (ix_any hr.units1) (x_lst (x_cons (x_int) (x_cons (x_neg (x_int)) (x_nil)))) (x_op oMod (x_op oFdivB (x_var 3) (x_int)) (x_int)) (fun _ _ => rfl))) (x_nil)))))) (x_snil)) (x_scons (x_set 4 sc_law.nd (x_op oAddG (x_lst (x_cons (x_var 1) (x_nil))) (x_comp (ys := ["_law_script"]) (by exact ⟨rfl, by decide +kernel, by decide +kernel, rfl, by decide +kernel, by decide +kernel⟩) (by exact .cons rfl (by first | exact .inl rfl | exact .inr rfl) rfl (.nil)) (x_range1 T.z_range (x_cons (x_var 2) (x_nil))) (fun C s H fp => x_noif) (fun C s H fp => (x_callX G__law_number (hr.mono (by decide)) T.m__law_number T.f__law_number.kp T.b__law_number passF (x_cons (x_callX G__law_cell_at (hr.mono (by decide)) T.m__law_cell_at T.f__law_cell_at.kp T.b__law_cell_at passF (x_cons (x_var 1) (x_cons (x_op oAddG (x_int) (x_var 0)) (x_nil)))) (x_nil))))))) (x_scons (x_ifS (x_w (x_wand (x_w (x_wor (x_tcmp (oEqC hr.units150) (x_var 1) (x_str)) (x_wor1 (x_tcmp (oEqC hr.units150) (x_var 1) (x_str))))) (x_wand1 (x_tcmp oGt (x_op oMod (x_op oFdivB (x_var 3) (x_int)) (x_int)) (x_int))))) (x_scons (x_set 5 sc_law.nd (x_callX G__law_cell_at (hr.mono (by decide)) T.m__law_cell_at T.f__law_cell_at.kp T.b__law_cell_at passF (x_cons (x_var 0) (x_cons (x_int) (x_nil))))) (x_scons (x_set 6 sc_law.nd (x_callX G__law_signs (hr.mono (by decide)) T.m__law_signs T.f__law_signs.kp T.b__law_signs passF (x_cons (x_var 5) (x_cons (x_op oMod (x_var 5) (x_int)) (x_nil))))) (x_sone (x_drop (x_bm PySem.F.plainAttrs_list PySem.F.slot_list_append PySem.F.type_list_append mt_append (x_var 4) (x_cons (x_ix (ix_any hr.units1) (x_lst (x_cons (x_var 6) (x_cons (x_op oAddG (x_str) (x_var 6)) (x_cons (x_op oAddG (x_var 6) (x_str)) (x_cons (x_op oAddG (x_op oAddG (x_str) (x_var 6)) (x_str)) (x_nil)))))) (x_op oMod (x_op oFdivB (x_var 5) (x_int)) (x_int)) (fun _ _ => rfl)) (x_nil))))))) (x_snil)) (x_scons (x_set 7 sc_law.nd (x_bm PySem.F.plainAttrs_str PySem.F.slot_str_join PySem.F.type_str_join mt_join (x_str) (x_cons (x_var 4) (x_nil)))) (x_scons (x_ifS (x_tcmp (oEqC hr.units150) (x_op oMod (x_op oFdivB (x_var 3) (x_int)) (x_int)) (x_int)) (x_sone (x_set 7 sc_law.nd (x_callX G__law_spoiled (hr.mono (by decide)) T.m__law_spoiled T.f__law_spoiled.kp T.b__law_spoiled passF (x_cons (x_var 7) (x_cons (x_callX G__law_cell_at (hr.mono (by decide)) T.m__law_cell_at T.f__law_cell_at.kp T.b__law_cell_at passF (x_cons (x_var 0) (x_cons (x_int) (x_nil)))) (x_nil)))))) (x_snil)) (x_scons (x_ifS (x_tcmp (oEqC hr.units150) (x_op oMod (x_op oFdivB (x_var 3) (x_int)) (x_int)) (x_int)) (x_sone (x_ret (x_callX G__law_refused (hr.mono (by decide)) T.m__law_refused T.f__law_refused.kp T.b__law_refused passF (x_cons (x_ix (ix_any hr.units1) (x_lst (x_cons (x_non) (x_cons (x_int) (x_cons (x_bl) (x_cons (x_lst (x_cons (x_var 7) (x_nil))) (x_cons (x_tup (x_cons (x_var 7) (x_cons (x_lst (x_nil)) (x_nil)))) (x_cons (x_dnewA) (x_nil)))))))) (x_op oMod (x_op oFdivB (x_var 3) (x_int)) (x_int)) (fun _ _ => rfl)) (x_nil))))) (x_snil)) (x_scons (x_set 8 sc_law.nd (x_callX G__law_due (hr.mono (by decide)) T.m__law_due T.f__law_due.kp T.b__law_due passF (x_cons (x_var 7) (x_nil)))) (x_scons (x_ifS (x_tcmp oIsA (x_var 8) (x_non)) (x_sone (x_ret (x_callX G__law_refused (hr.mono (by decide)) T.m__law_refused T.f__law_refused.kp T.b__law_refused passF (x_cons (x_var 7) (x_nil))))) (x_snil)) (x_sone (x_ret (x_callX G__law_alike (hr.mono (by decide)) T.m__law_alike T.f__law_alike.kp T.b__law_alike passF (x_cons (x_callX G_row_read (hr.mono (by decide)) T.m_row_read T.f_row_read.kp T.b_row_read passF (x_cons (x_var 7) (x_nil))) (x_cons (x_var 8) (x_nil)))))))))))))))))
end Rs
namespace Rs
open PySem PySem.Spec PyProof.Rows L2
theorem line_ge {n : Nat} (h : n ≤ 1000000) : n ≤ sizeLine := by rw [sizeLine_eq]; omega
theorem str_len (z : Str) : z.length = z.cps.toList.length := by rw [Array.length_toList]; rfl
theorem cps_ext {x y : Str} (h : x.cps.toList = y.cps.toList) : x = y := by
  cases x; cases y
  simp only [Str.mk.injEq] at h ⊢
  exact Array.toList_inj.mp h
theorem mk_len (l : List Nat) : (mkS l).length = l.length := by rw [str_len]; rfl
theorem atI_nat {α : Type} {xs : List α} {i : Nat} {x : α} (h : xs[i]? = some x) : atI xs (i : Int) = some x := by
  have hi := (List.getElem?_eq_some_iff.mp h).1
  unfold atI ixN
  rw [if_pos (by omega), if_pos (by omega)]
  show xs[(i : Int).toNat]? = _
  rw [Int.toNat_natCast]; exact h
theorem in_fig (c : Nat) : (!(Builtin.Str.occurrences "0123456789" ⟨#[c]⟩ 0 ("0123456789" : Str).length 1).isEmpty) = isD c := by
  rw [PySem.StrLaws.found_one]
  unfold isD
  have e : (("0123456789" : String) : Str).cps.toList = [48, 49, 50, 51, 52, 53, 54, 55, 56, 57] := by decide +kernel
  rw [e]
  apply decide_eq_decide.mpr
  simp only [List.mem_cons, List.not_mem_nil, or_false]
  omega
theorem figs_split (l : List Nat) : ∃ r, l = figs l ++ r ∧ (∀ d ∈ figs l, 48 ≤ d ∧ d ≤ 57) ∧ (∀ c t, r = c :: t → isD c = false) ∧ l.drop (figs l).length = r := by
  have sp : figs l ++ l.dropWhile isD = l := List.takeWhile_append_dropWhile
  refine ⟨l.dropWhile isD, sp.symm, fun d hd => of_decide_eq_true (List.all_takeWhile (p := isD) (l := l) |> fun h => List.all_eq_true.mp h d hd), fun c t e => ?_, (congrArg (List.drop (figs l).length) sp.symm).trans List.drop_left⟩
  have := List.head?_dropWhile_not isD l
  rw [e] at this
  simpa using this
theorem len_figures_end (K : PySem.W.Frag) (A : Adr) : ∀ vs H Q E, sp_figures_end K A vs H Q E → vs.length = 2 := by rintro vs H Q E ⟨_, _, rfl, _⟩; rfl
theorem rd_figures_end {K : PySem.W.Frag} {mg : Str → Option Value} {A : Adr} (T : Txt K mg A) (vs : List V) (H : Hp) (Q : VK) (E : XK) (h : sp_figures_end K A vs H Q E) : T_figures_end K A { nx := fun _ H' => Q .non H', rt := Q } (start ["text", "begin", "end"] vs) H := by
  obtain ⟨z, e, rfl, he, hz, q⟩ := h
  obtain ⟨r, er, hds, hr, _⟩ := figs_split (z.cps.toList.drop e)
  generalize figs (z.cps.toList.drop e) = ds at er hds q
  have hlen : z.length = e + ds.length + r.length := by
    have := congrArg List.length er
    rw [List.length_drop, ← str_len, List.length_append] at this; omega
  have hget : ∀ j, z.cps.toList[e + j]? = (ds ++ r)[j]? := fun j => by rw [← er, List.getElem?_drop]
  refine ⟨fun m σ H2 => ∃ j : Nat, j ≤ ds.length ∧ m = ds.length - j ∧ σ = [some (.str z), some (.int (e : Int)), some (.int ((e + j : Nat) : Int))] ∧ H2 = H, ⟨ds.length, 0, Nat.zero_le _, rfl, rfl, rfl⟩, ?_⟩
  rintro m σ H2 ⟨j, hj, rfl, rfl, rfl⟩
  refine .inl ⟨line_ge (by omega), ?_⟩
  by_cases hlt : j < ds.length
  · refine Sel.yes (decide_eq_true (by omega)) ?_
    have e1 : z.cps.toList[e + j]? = some ds[j] := by rw [hget, List.getElem?_append_left hlt, List.getElem?_eq_getElem hlt]
    refine .inl (.inr (.inr ⟨z, _, ds[j], rfl, rfl, line_ge (by omega), atI_nat e1, ?_⟩))
    show (if (!(Builtin.Str.occurrences "0123456789" ⟨#[ds[j]]⟩ 0 ("0123456789" : Str).length 1).isEmpty) = true then _ else _)
    rw [if_pos (by rw [in_fig]; exact decide_eq_true (hds _ (List.getElem_mem _)))]
    refine ⟨fun σ' H' => σ' = [some (.str z), some (.int (e : Int)), some (.int ((e + (j + 1) : Nat) : Int))] ∧ H' = H2, fun σ' H' ⟨e1, e2⟩ => ⟨ds.length - (j + 1), by omega, j + 1, hlt, rfl, e1, e2⟩, ?_, rfl⟩
    show [some (V.str z), some (V.int (e : Int)), some (V.int (((e + j : Nat) : Int) + 1))] = _
    have : ((e + j : Nat) : Int) + 1 = ((e + (j + 1) : Nat) : Int) := by omega
    rw [this]
  · have hje : j = ds.length := by omega
    subst hje
    cases r with
    | nil =>
      refine Sel.no (decide_eq_false (by simp only [List.length_nil] at hlen; omega)) ?_
      show (if false = true then _ else _)
      rw [if_neg (by decide)]
      exact q
    | cons c t =>
      refine Sel.yes (decide_eq_true (by simp only [List.length_cons] at hlen; omega)) ?_
      have e1 : z.cps.toList[e + ds.length]? = some c := by rw [hget, List.getElem?_append_right (Nat.le_refl _), Nat.sub_self]; rfl
      refine .inl (.inr (.inr ⟨z, _, c, rfl, rfl, line_ge (by omega), atI_nat e1, ?_⟩))
      show (if (!(Builtin.Str.occurrences "0123456789" ⟨#[c]⟩ 0 ("0123456789" : Str).length 1).isEmpty) = true then _ else _)
      rw [if_neg (by rw [in_fig, hr c t rfl]; decide)]
      exact q
theorem zero_str {d : Nat} : (⟨#[d]⟩ : Str) = (("0" : String) : Str) ↔ d = 48 := by
  constructor
  · intro h
    have e2 : (#[d] : Array Nat) = #[48] := congrArg Str.cps (show (⟨#[d]⟩ : Str) = ⟨#[48]⟩ from h)
    simpa using e2
  · rintro rfl; rfl
theorem zero_is {z : Str} : z = (("0" : String) : Str) ↔ z.cps.toList = [48] := by
  constructor
  · rintro rfl; rfl
  · intro h; exact cps_ext h
theorem figs_all {ds : List Nat} (h : ds.all isD = true) : figs ds = ds := by
  unfold figs
  induction ds with
  | nil => rfl
  | cons d r ih =>
    rw [List.all_cons, Bool.and_eq_true] at h
    rw [List.takeWhile_cons_of_pos h.1, ih h.2]
theorem figs_len {ds : List Nat} (h : (figs ds).length = ds.length) : ds.all isD = true := by
  obtain ⟨r, er, hds, _, _⟩ := figs_split ds
  have : r = [] := by
    have := congrArg List.length er
    rw [List.length_append] at this
    exact List.eq_nil_of_length_eq_zero (by omega)
  rw [this, List.append_nil] at er
  rw [er]
  exact List.all_eq_true.mpr fun d hd => decide_eq_true (hds d hd)
theorem len_is_number (K : PySem.W.Frag) (A : Adr) : ∀ vs H Q E, sp_is_number K A vs H Q E → vs.length = 2 := by rintro vs H Q E ⟨_, rfl, _⟩; rfl
theorem rd_is_number {K : PySem.W.Frag} {mg : Str → Option Value} {A : Adr} (T : Txt K mg A) (vs : List V) (H : Hp) (Q : VK) (E : XK) (h : sp_is_number K A vs H Q E) : T_is_number K A { nx := fun _ H' => Q .non H', rt := Q } (start ["text", "most"] vs) H := by
  obtain ⟨z, rfl, hl, q⟩ := h
  have ml := str_len z
  have ez : okFig z = okL z.cps.toList := rfl
  rw [ez] at q
  refine .inl ⟨line_ge (by omega), ?_⟩
  by_cases h1 : 1 ≤ z.length
  · refine Sel.yes (decide_eq_true (by omega)) ?_
    by_cases h60 : z.length ≤ 20
    · refine Sel.no (by rw [decide_eq_true (by omega)]; rfl) ?_
      refine ⟨z, 0, rfl, by omega, by omega, .inl ⟨line_ge (by omega), ?_⟩⟩
      rw [List.drop_zero, Nat.zero_add]
      refine Sel.ndec (fun e => ?_) (fun e => ?_)
      · have : okL z.cps.toList = false := by
          unfold okL
          have : z.cps.toList.all isD = false := by
            cases hh : z.cps.toList.all isD with
            | false => rfl
            | true => exact absurd (by rw [figs_all hh, ← ml]) e
          rw [this, Bool.and_false]; rfl
        rw [this] at q; exact q
      have ha : z.cps.toList.all isD = true := figs_len (by omega)
      generalize hds : z.cps.toList = ds at ha ml q
      cases ds with
      | nil => simp at ml; omega
      | cons d r =>
        have hk : okL (d :: r) = !(decide (d = 48) && !decide (d :: r = [48])) := by
          unfold okL
          rw [decide_eq_true ⟨by omega, by omega⟩, ha]; rfl
        refine Sel.dec (fun e => ?_) (fun e => ?_)
        · have e := zero_is.mp e
          rw [hds] at e
          have : okL (d :: r) = true := by rw [hk, decide_eq_true e]; simp
          rw [this] at q; exact q
        · refine .inl (.inr (.inr ⟨_, 0, d, rfl, rfl, line_ge (by omega), atI_nat (i := 0) (by rw [hds]; rfl), ?_⟩))
          show Q (.bl (!decide ((⟨#[d]⟩ : Str) = ((("0" : String) : Str))))) H
          have hne : ¬ (d :: r = [48]) := fun z => e (zero_is.mpr (hds.trans z))
          have : okL (d :: r) = !decide ((⟨#[d]⟩ : Str) = ((("0" : String) : Str))) := by
            rw [hk, decide_eq_false hne, show (!false) = true from rfl, Bool.and_true]
            congr 1
            exact decide_eq_decide.mpr zero_str.symm
          rw [← this]; exact q
    · refine Sel.yes (by rw [decide_eq_false (by omega)]; rfl) ?_
      have : okL z.cps.toList = false := by
        unfold okL
        rw [decide_eq_false fun z => by omega]; rfl
      rw [this] at q; exact Sel.t q
  · refine Sel.no (decide_eq_false (by omega)) (Sel.yes rfl ?_)
    have : okL z.cps.toList = false := by
      unfold okL
      rw [decide_eq_false fun z => by omega]; rfl
    rw [this] at q; exact Sel.t q
theorem int_of {z : Str} (h : okFig z = true) : PySem.intText? z = some (numOf z) ∧ z.length ≤ 640 := by
  unfold okFig okL at h
  rw [Bool.and_eq_true, Bool.and_eq_true] at h
  have hl := of_decide_eq_true h.1.1
  have ml := str_len z
  refine ⟨PySem.intText_digits (x := z) (fun d hd => of_decide_eq_true (List.all_eq_true.mp h.1.2 d hd)) (fun e => ?_) (by omega), by omega⟩
  rw [e] at hl; simp at hl
theorem len_number_read (K : PySem.W.Frag) (A : Adr) : ∀ vs H Q E, sp_number_read K A vs H Q E → vs.length = 1 := by rintro vs H Q E ⟨_, rfl, _⟩; rfl
theorem rd_number_read {K : PySem.W.Frag} {mg : Str → Option Value} {A : Adr} (T : Txt K mg A) (vs : List V) (H : Hp) (Q : VK) (E : XK) (h : sp_number_read K A vs H Q E) : T_number_read K A E { nx := fun _ H' => Q .non H', rt := Q } (start ["figures"] vs) H := by
  obtain ⟨z, rfl, hl, q1, q2⟩ := h
  refine ⟨z, rfl, hl, ?_⟩
  cases h : okFig z with
  | true =>
    refine Sel.no rfl ?_
    obtain ⟨a, b⟩ := int_of h
    exact ⟨_, a, b, q1 h⟩
  | false => exact Sel.yes rfl (q2 h)
end Rs
namespace Rs
open PySem PySem.Spec PyProof.Rows L2
theorem occ_rel (x y : Str) (hi k n : Nat) (hkn : k ≤ n) : ∀ (l : List Nat) (s1 s2 : Array Nat × Nat), ((s1 = s2 ∧ s1.fst.size ≤ k) ∨ (s1.fst.size = k ∧ s2.fst.toList.take k = s1.fst.toList ∧ k ≤ s2.fst.size)) →
    (forIn l s1 (StrLaws.occBody x y hi k)).run.fst.toList = (forIn l s2 (StrLaws.occBody x y hi n)).run.fst.toList.take k
  | [], s1, s2, h => by
    show s1.fst.toList = s2.fst.toList.take k
    rcases h with ⟨rfl, h⟩ | ⟨_, h, _⟩
    · rw [List.take_of_length_le (by rw [Array.length_toList]; exact h)]
    · exact h.symm
  | a :: l, s1, s2, h => by
    rw [List.forIn_cons, List.forIn_cons]
    have ih := occ_rel x y hi k n hkn l
    by_cases hc : ((s1.fst.size < k ∧ s1.snd ≤ a) ∧ a + y.length ≤ hi) ∧ Builtin.Str.subAt x y a = true
    · have e : s1 = s2 := by
        rcases h with ⟨e, _⟩ | ⟨e, _⟩
        · exact e
        · omega
      subst e
      have hc2 : ((s1.fst.size < n ∧ s1.snd ≤ a) ∧ a + y.length ≤ hi) ∧ Builtin.Str.subAt x y a = true := ⟨⟨⟨by omega, hc.1.1.2⟩, hc.1.2⟩, hc.2⟩
      unfold StrLaws.occBody
      rw [if_pos hc, if_pos hc2]
      refine ih _ _ (.inl ⟨rfl, ?_⟩)
      show (s1.fst.push a).size ≤ k
      rw [Array.size_push]; omega
    · have e1 : StrLaws.occBody x y hi k a s1 = pure (ForInStep.yield (s1.fst, s1.snd)) := by unfold StrLaws.occBody; rw [if_neg hc]
      rw [e1]
      by_cases hc2 : ((s2.fst.size < n ∧ s2.snd ≤ a) ∧ a + y.length ≤ hi) ∧ Builtin.Str.subAt x y a = true
      · have e2 : StrLaws.occBody x y hi n a s2 = pure (ForInStep.yield (s2.fst.push a, a + y.length)) := by unfold StrLaws.occBody; rw [if_pos hc2]
        rw [e2]
        refine ih (s1.fst, s1.snd) (s2.fst.push a, a + y.length) (.inr ?_)
        show s1.fst.size = k ∧ (s2.fst.push a).toList.take k = s1.fst.toList ∧ k ≤ (s2.fst.push a).size
        rw [Array.size_push, Array.toList_push]
        rcases h with ⟨e, hk⟩ | ⟨h1, h2, h3⟩
        · subst e
          have : s1.fst.size = k := by
            rcases Nat.lt_or_ge s1.fst.size k with z | z
            · exact absurd ⟨⟨⟨z, hc2.1.1.2⟩, hc2.1.2⟩, hc2.2⟩ hc
            · omega
          refine ⟨this, ?_, by omega⟩
          rw [List.take_append_of_le_length (by rw [Array.length_toList]; omega), List.take_of_length_le (by rw [Array.length_toList]; omega)]
        · exact ⟨h1, by rw [List.take_append_of_le_length (by rw [Array.length_toList]; omega)]; exact h2, by omega⟩
      · have e2 : StrLaws.occBody x y hi n a s2 = pure (ForInStep.yield (s2.fst, s2.snd)) := by unfold StrLaws.occBody; rw [if_neg hc2]
        rw [e2]
        exact ih _ _ h
theorem occ_take_le (x y : Str) {k n : Nat} (h : k ≤ n) : Builtin.Str.occurrences x y 0 x.length k = (Builtin.Str.occurrences x y 0 x.length n).take k := by
  rw [StrLaws.occ_eq, StrLaws.occ_eq]
  exact occ_rel x y x.length k n h _ _ _ (.inl ⟨rfl, Nat.zero_le _⟩)
theorem occ_take (x y : Str) (k : Nat) : Builtin.Str.occurrences x y 0 x.length k = (Builtin.Str.occurrences x y 0 x.length (x.length + 1)).take k := by
  rcases Nat.le_total k (x.length + 1) with h | h
  · exact occ_take_le x y h
  · have e := occ_take_le x y h
    have l1 := StrLaws.occ_length_le_len x y 0 x.length k
    have l2 := StrLaws.occ_length_le_len x y 0 x.length (x.length + 1)
    rw [List.take_of_length_le (by omega)] at e
    rw [List.take_of_length_le (by omega)]
    exact e.symm
def cutW (y : Str) (k : Nat) (ws : List Str) : List Str := if ws.length ≤ k then ws else ws.take k ++ [Str.join y (ws.drop k)]
theorem cut_parts (x y : Str) : ∀ (cuts : List Nat) (k a f : Nat), StrLaws.ChainTo x y x.length a cuts f → StrLaws.partsFrom x y.length a (cuts.take k) = cutW y k (StrLaws.partsFrom x y.length a cuts)
  | cuts, 0, a, f, h => by
    have e := StrLaws.join_partsFrom x y cuts a f h
    obtain ⟨p, r, e2⟩ := StrLaws.partsFrom_ne x y.length a cuts
    unfold cutW
    rw [if_neg (by rw [e2]; simp), List.drop_zero, e]; rfl
  | [], k + 1, a, f, h => by
    unfold cutW
    rw [if_pos (by show 1 ≤ k + 1; omega)]; rfl
  | c :: r, k + 1, a, f, h => by
    show Builtin.Str.strSub x a c :: StrLaws.partsFrom x y.length (c + y.length) (r.take k) = cutW y (k + 1) (Builtin.Str.strSub x a c :: StrLaws.partsFrom x y.length (c + y.length) r)
    rw [cut_parts x y r k (c + y.length) f h.2.2]
    unfold cutW
    by_cases hl : (StrLaws.partsFrom x y.length (c + y.length) r).length ≤ k
    · rw [if_pos hl, if_pos (by rw [List.length_cons]; omega)]
    · rw [if_neg hl, if_neg (by rw [List.length_cons]; omega)]; rfl
theorem cut_one (y x : Str) (k : Nat) : cutW y k [x] = [x] := by
  unfold cutW
  cases k with
  | zero => rfl
  | succ k => rw [if_pos (by simp)]
theorem split_max (x y : Str) {k : Nat} (hk : 1 ≤ k) : PySem.Txt.splitMax x y (k : Int) = cutW y k (PySem.Txt.split x y) := by
  have el : limitOf x (k : Int) = k := by unfold limitOf; rw [if_neg (by omega), Int.toNat_natCast]
  unfold PySem.Txt.splitMax PySem.Txt.split
  rw [el, occ_take x y k]
  split
  · exact (cut_one y x k).symm
  · cases ho : Builtin.Str.occurrences x y 0 x.length (x.length + 1) with
    | nil =>
      rw [List.take_nil]
      exact (cut_one y x k).symm
    | cons i r =>
      obtain ⟨f, hch⟩ := StrLaws.occ_chain x y (x.length + 1)
      rw [ho] at hch
      obtain ⟨k, rfl⟩ : ∃ j, k = j + 1 := ⟨k - 1, by omega⟩
      have e := cut_parts x y (i :: r) (k + 1) 0 f hch
      show (if (i :: r.take k).isEmpty = true then _ else _) = cutW y (k + 1) (if (i :: r).isEmpty = true then _ else _)
      rw [if_neg (by simp), if_neg (by simp), StrLaws.partsBetween_eq, StrLaws.partsBetween_eq]
      exact e
theorem sp_len : ((" " : String) : Str).length = 1 := by decide +kernel
theorem sp_kind : Builtin.Str.strKind ((" " : String) : Str) = 1 := by decide +kernel
theorem kind_ge (z : Str) : 1 ≤ Builtin.Str.strKind z := by
  unfold Builtin.Str.strKind
  split
  · exact Nat.le_refl _
  · split <;> decide
theorem W_head (z : Str) : ∃ r, W z = (PySem.Txt.partition z ((" " : String) : Str)).1 :: r := by
  unfold W PySem.Txt.split PySem.Txt.partition
  rw [occ_take z _ 1, sp_len, sp_kind]
  have hk : ¬ Builtin.Str.strKind z < 1 := by have := kind_ge z; omega
  by_cases hz : z.length < 1
  · rw [if_pos (by rw [decide_eq_true hz]; rfl)]
    have : Builtin.Str.occurrences z ((" " : String) : Str) 0 z.length (z.length + 1) = [] := by
      cases ho : Builtin.Str.occurrences z ((" " : String) : Str) 0 z.length (z.length + 1) with
      | nil => rfl
      | cons i r =>
        have := (StrLaws.occ_spec z ((" " : String) : Str) 0 z.length (z.length + 1) i (by rw [ho]; exact List.mem_cons_self)).1
        rw [sp_len] at this; omega
    rw [this]
    exact ⟨[], rfl⟩
  · rw [if_neg (by rw [decide_eq_false hz, decide_eq_false hk]; decide)]
    cases ho : Builtin.Str.occurrences z ((" " : String) : Str) 0 z.length (z.length + 1) with
    | nil => exact ⟨[], rfl⟩
    | cons i r =>
      rw [StrLaws.partsBetween_eq]
      exact ⟨StrLaws.partsFrom z 1 (i + 1) r, rfl⟩
theorem W_join (z : Str) : Str.join ((" " : String) : Str) (W z) = z := StrLaws.join_split z _
theorem join_get (y : Str) : ∀ (ws : List Str), ∀ w ∈ ws, w.length ≤ (Str.join y ws).length ∧ ∀ c ∈ w.cps.toList, c ∈ (Str.join y ws).cps.toList
  | [], w, h => by cases h
  | [x], w, h => by
    rw [List.mem_singleton.mp h]
    exact ⟨Nat.le_refl _, fun c hc => hc⟩
  | x :: x2 :: r, w, h => by
    have ih := join_get y (x2 :: r)
    have e : Str.join y (x :: x2 :: r) = x ++ y ++ Str.join y (x2 :: r) := rfl
    rw [e, strLen_append, strLen_append]
    have ec : (x ++ y ++ Str.join y (x2 :: r)).cps.toList = x.cps.toList ++ y.cps.toList ++ (Str.join y (x2 :: r)).cps.toList := by
      rw [Str.cps_append, Str.cps_append, Array.toList_append, Array.toList_append]
    rw [ec]
    rcases List.mem_cons.mp h with rfl | h
    · exact ⟨by omega, fun c hc => List.mem_append_left _ (List.mem_append_left _ hc)⟩
    · obtain ⟨h1, h2⟩ := ih w h
      exact ⟨by omega, fun c hc => List.mem_append_right _ (h2 c hc)⟩
theorem join_len (y : Str) : ∀ (ws : List Str), ws ≠ [] → (Str.join y ws).length = (ws.map (·.length)).sum + (ws.length - 1) * y.length
  | [], h => absurd rfl h
  | [x], _ => by show x.length = _; simp
  | x :: x2 :: r, _ => by
    have ih := join_len y (x2 :: r) (by simp)
    have e : Str.join y (x :: x2 :: r) = x ++ y ++ Str.join y (x2 :: r) := rfl
    have e2 : ((x :: x2 :: r).map (·.length)).sum = x.length + ((x2 :: r).map (·.length)).sum := by rw [List.map_cons, List.sum_cons]
    have : (x :: x2 :: r).length - 1 = (x2 :: r).length - 1 + 1 := by simp
    rw [e, strLen_append, strLen_append, ih, e2, this, Nat.succ_mul]
    omega
theorem W_short {z w : Str} (h : w ∈ W z) : w.length ≤ z.length := by
  have := (join_get ((" " : String) : Str) (W z) w h).1
  rw [W_join] at this; exact this
theorem W_in {z w : Str} (h : w ∈ W z) : ∀ c ∈ w.cps.toList, c ∈ z.cps.toList := by
  have := (join_get ((" " : String) : Str) (W z) w h).2
  rw [W_join] at this; exact this
theorem W_len (z : Str) : (W z).length ≤ z.length + 1 := by
  obtain ⟨r, e⟩ := W_head z
  have := join_len ((" " : String) : Str) (W z) (by rw [e]; simp)
  rw [W_join, sp_len] at this
  omega
theorem W_sum (z : Str) : ((W z).map (·.length)).sum ≤ z.length := by
  obtain ⟨r, e⟩ := W_head z
  have := join_len ((" " : String) : Str) (W z) (by rw [e]; simp)
  rw [W_join, sp_len] at this
  omega
theorem txt_join (y : Str) (ws : List Str) : PySem.Txt.join y ws = Str.join y ws := eq_of_beq (join_plain_closes y ws)
theorem sum_drop (ws : List Str) (k : Nat) : ((ws.drop k).map (·.length)).sum ≤ (ws.map (·.length)).sum := by
  rw [List.map_drop]
  have : (ws.map (·.length)).sum = ((ws.map (·.length)).take k).sum + ((ws.map (·.length)).drop k).sum := by rw [← List.sum_append_nat, List.take_append_drop]
  omega
theorem asc_list {z : Str} (h : ∀ c ∈ z.cps.toList, c < 128) : ascS z = true := by
  unfold ascS
  rw [Array.all_eq_true]
  intro i hi
  exact decide_eq_true (h _ (by simp))
theorem list_asc {z : Str} (h : ascS z = true) : ∀ c ∈ z.cps.toList, c < 128 := by
  intro c hc
  unfold ascS at h
  rw [Array.all_eq_true] at h
  obtain ⟨i, hi, e⟩ := List.getElem_of_mem hc
  have := of_decide_eq_true (h i (by simpa using hi))
  rw [← e]
  simpa using this
theorem W_asc {z w : Str} (hz : ascS z = true) (h : w ∈ W z) : ascS w = true := asc_list fun c hc => list_asc hz c (W_in h c hc)
end Rs
namespace Rs
open PySem PySem.Spec PyProof.Rows L2
theorem getD_str {ws : List Str} {i : Nat} (h : i < ws.length) : (ws.map V.str).getD i .non = .str ws[i] := by
  rw [List.getD_eq_getElem?_getD, List.getElem?_map, List.getElem?_eq_getElem h]; rfl
theorem len_numbers_read (K : PySem.W.Frag) (A : Adr) : ∀ vs H Q E, sp_numbers_read K A vs H Q E → vs.length = 2 := by rintro vs H Q E ⟨_, _, _, rfl, _⟩; rfl
theorem rd_numbers_read {K : PySem.W.Frag} {mg : Str → Option Value} {A : Adr} (T : Txt K mg A) (vs : List V) (H : Hp) (Q : VK) (E : XK) (h : sp_numbers_read K A vs H Q E) : T_numbers_read K A E { nx := fun _ H' => Q .non H', rt := Q } (start ["many", "parts"] vs) H := by
  obtain ⟨m, p, ws, rfl, hp, hl, hw, q1, q2⟩ := h
  refine .inl (.inl ⟨_, SqL.of hp, ?_⟩)
  rw [List.length_map]
  refine Sel.ndec (fun ne => q2 (fun z => ne z.1) H (.refl H)) (fun eq => ?_)
  refine ⟨p, rfl, .inl ⟨⟨_, SqL.of hp⟩, fun D hD => ?_⟩⟩
  have hne : p ≠ D := ne_of_none hp hD
  refine comp_by (Items.list (xs := ws.map V.str) .non) (fun i ys H2 => (ws.take i).all okFig = true ∧ ys = ((ws.take i).map numOf).map V.int ∧ H2 = upd H D (.lst ys)) (fun i ys H2 hi ⟨_, _, e2⟩ => ?_) ⟨rfl, rfl, rfl⟩ (fun i ys H2 hi ⟨e0, e1, e2⟩ => ?_) (fun ys H2 ⟨e0, e1, e2⟩ => ?_)
  · rw [e2]; exact SqL.of (by rw [upd_ne hne]; exact hp)
  · subst e2
    rw [List.length_map] at hi
    have hyl : ys.length = i := by rw [e1, List.length_map, List.length_map, List.length_take]; omega
    have et : ws.take (i + 1) = ws.take i ++ [ws[i]] := by rw [List.take_add_one, List.getElem?_eq_getElem hi]; rfl
    refine iteT ⟨ws[i], congrArg (fun v => [v]) (getD_str hi), hw _ (List.getElem_mem hi), fun ok => ?_, fun bad => ?_⟩
    · refine ⟨upd_same, by rw [hyl]; exact Nat.lt_of_le_of_lt (m := 10000) (by omega) (by rw [sizeLine_eq]; decide), CWd.next (by rw [List.length_map]; exact hi) ⟨?_, ?_, upd_upd⟩⟩
      · rw [et, List.all_append, e0]; show (true && (okFig ws[i] && true)) = true; rw [ok]; rfl
      · rw [et, e1, List.map_append, List.map_append]; rfl
    · refine q2 (fun z => ?_) _ (Same.upd hD)
      have := List.all_eq_true.mp z.2 _ (List.getElem_mem hi)
      rw [bad] at this; cases this
  · subst e2
    rw [List.length_map, List.take_length] at e0 e1
    exact q1 eq e0 D _ (Same.upd hD) (by rw [upd_same, e1])
theorem cut_tail (w : Str) (r : List Str) : cutV ((w :: r).map V.str) (some 1) none = r.map V.str := by
  have e1 : HT.sIx ((w :: r).map V.str).length 0 (some 1) = 1 := by
    have := HT.sIx_nat ((w :: r).map V.str).length 0 1
    rw [List.length_map, List.length_cons] at this ⊢
    exact this.trans (by omega)
  unfold cutV
  rw [e1, HT.sIx_none, List.length_map, List.length_cons]
  show (r.map V.str).take (r.length + 1 - 1) = _
  rw [Nat.add_sub_cancel, List.take_of_length_le (by rw [List.length_map]; omega)]
theorem cut_mid (w : Str) (r : List Str) : cutV ((w :: r).map V.str) (some 1) (some (-1)) = (r.take (r.length - 1)).map V.str := by
  have e1 : HT.sIx ((w :: r).map V.str).length 0 (some 1) = 1 := by
    have := HT.sIx_nat ((w :: r).map V.str).length 0 1
    rw [List.length_map, List.length_cons] at this ⊢
    exact this.trans (by omega)
  have e2 : HT.sIx ((w :: r).map V.str).length ((w :: r).map V.str).length (some (-1)) = r.length := by
    rw [List.length_map, List.length_cons]
    have e0 : HT.sIx (r.length + 1) (r.length + 1) (some (-1)) = ((-1 : Int) + ((r.length + 1 : Nat) : Int)).toNat := by unfold HT.sIx; exact if_pos (by decide)
    rw [e0]; omega
  unfold cutV
  rw [e1, e2]
  show (r.map V.str).take (r.length - 1) = _
  rw [List.map_take]
theorem cut_some (w : Str) (r : List Str) (k : Nat) : cutV ((w :: r).map V.str) (some 1) (some ((k : Int) + 1)) = (r.take k).map V.str := by
  have e1 : HT.sIx ((w :: r).map V.str).length 0 (some 1) = 1 := by
    have := HT.sIx_nat ((w :: r).map V.str).length 0 1
    rw [List.length_map, List.length_cons] at this ⊢
    exact this.trans (by omega)
  have e2 : HT.sIx ((w :: r).map V.str).length ((w :: r).map V.str).length (some ((k : Int) + 1)) = min (k + 1) (r.length + 1) := by
    have := HT.sIx_nat ((w :: r).map V.str).length ((w :: r).map V.str).length (k + 1)
    rw [List.length_map, List.length_cons] at this ⊢
    exact this
  unfold cutV
  rw [e1, e2]
  show (r.map V.str).take (min (k + 1) (r.length + 1) - 1) = _
  have : min (k + 1) (r.length + 1) - 1 = min k r.length := by omega
  rw [this, List.map_take]
  rcases Nat.le_total k r.length with h | h
  · rw [Nat.min_eq_left h]
  · rw [Nat.min_eq_right h, List.take_of_length_le (by rw [List.length_map]; exact Nat.le_refl _), List.take_of_length_le (by rw [List.length_map]; exact h)]
theorem cut_rest (w : Str) (r : List Str) (k : Nat) : cutV ((w :: r).map V.str) (some ((k : Int) + 1)) none = (r.drop k).map V.str := by
  have e1 : HT.sIx ((w :: r).map V.str).length 0 (some ((k : Int) + 1)) = min (k + 1) (r.length + 1) := by
    have := HT.sIx_nat ((w :: r).map V.str).length 0 (k + 1)
    rw [List.length_map, List.length_cons] at this ⊢
    exact this
  unfold cutV
  rw [e1, HT.sIx_none, List.length_map, List.length_cons, List.map_drop]
  rcases Nat.le_total k r.length with h | h
  · rw [Nat.min_eq_left (by omega)]
    show ((r.map V.str).drop k).take _ = _
    rw [List.take_of_length_le (by rw [List.length_drop, List.length_map]; omega)]
  · rw [Nat.min_eq_right (by omega), Nat.sub_self, List.take_zero, List.drop_eq_nil_of_le (by rw [List.length_map]; exact h)]
theorem val_mem {k : Str} {n : Int} : ∀ {D : List (Str × Int)}, valD k D = some n → (k, n) ∈ D
  | [], h => by cases h
  | (x, m) :: D, h => by
    unfold valD at h
    split at h
    · rename_i e; cases h; rw [e]; exact List.mem_cons_self
    · exact List.mem_cons_of_mem _ (val_mem h)
theorem want_le {w : Str} {m : Int} (h : wantD w = some m) : 0 ≤ m ∧ m ≤ 4 := by
  have hm := val_mem h
  unfold tabW at hm
  simp only [List.mem_cons, Prod.mk.injEq, List.not_mem_nil, or_false] at hm
  rcases hm with z | z | z | z | z | z | z | z | z | z | z <;> (rw [z.2]; decide)
theorem want_ends {w : Str} {m : Int} (h : wantD w = some m) (he : endsW w = true) : 1 ≤ m := by
  unfold endsW at he
  rw [Bool.or_eq_true] at he
  have hm := val_mem h
  unfold tabW at hm
  simp only [List.mem_cons, Prod.mk.injEq, List.not_mem_nil, or_false] at hm
  rcases hm with z | z | z | z | z | z | z | z | z | z | z <;> first | (rw [z.2]; decide) | skip
  exfalso
  rw [z.1] at he
  rcases he with he | he <;> revert he <;> decide +kernel
theorem empty_str : (("" : String) : Str) = Str.empty := by decide
end Rs
namespace Rs
open PySem PySem.Spec PyProof.Rows L2
theorem due_plain_some {w : Str} {r : List Str} {m : Int} (hm : wantD w = some m) (he : endsW w = false) (hl : (r.length : Int) = m) (ha : r.all okFig = true) : dueW (w :: r) = some (w, r.map numOf, (("" : String) : Str)) := by
  have e : m.toNat = r.length := by omega
  unfold dueW
  dsimp only
  rw [hm]
  dsimp only
  rw [he, e, if_neg (by rintro (z | z) <;> simp at z), List.take_length, if_pos ha, List.drop_length, txt_join, empty_str]; rfl
theorem due_plain_none {w : Str} {r : List Str} {m : Int} (hm : wantD w = some m) (he : endsW w = false) (h : ¬ ((r.length : Int) = m ∧ r.all okFig = true)) : dueW (w :: r) = none := by
  have m0 := (want_le hm).1
  unfold dueW
  dsimp only
  rw [hm]
  dsimp only
  rw [he]
  by_cases hl : (r.length : Int) = m
  · have e : m.toNat = r.length := by omega
    rw [e, if_neg (by rintro (z | z) <;> simp at z), List.take_length, if_neg fun z => h ⟨hl, z⟩]
  · refine if_pos ?_
    rcases Nat.lt_or_ge r.length m.toNat with z | z
    · exact .inl (by simpa using z)
    · exact .inr ⟨rfl, by omega⟩
theorem due_text_some {w : Str} {r : List Str} {m : Int} (hm : wantD w = some m) (he : endsW w = true) (hl : m.toNat < r.length) (ha : (r.take m.toNat).all okFig = true) : dueW (w :: r) = some (w, (r.take m.toNat).map numOf, Str.join ((" " : String) : Str) (r.drop m.toNat)) := by
  unfold dueW
  dsimp only
  rw [hm]
  dsimp only
  rw [he, if_pos rfl, if_neg (fun z => z.elim (fun z => by omega) fun z => by cases z.1), if_pos ha, txt_join]
theorem due_text_none {w : Str} {r : List Str} {m : Int} (hm : wantD w = some m) (he : endsW w = true) (h : ¬ (m.toNat < r.length ∧ (r.take m.toNat).all okFig = true)) : dueW (w :: r) = none := by
  unfold dueW
  dsimp only
  rw [hm]
  dsimp only
  rw [he, if_pos rfl]
  by_cases hl : m.toNat < r.length
  · rw [if_neg (fun z => z.elim (fun z => by omega) fun z => by cases z.1), if_neg fun z => h ⟨hl, z⟩]
  · exact if_pos (.inl (by omega))
theorem due_no {w : Str} {r : List Str} (hm : wantD w = none) : dueW (w :: r) = none := by unfold dueW; dsimp only; rw [hm]
theorem ok_str {z : Str} (h : ascS z = true) : (PyData.str z).canLay0 = true := by
  show PyData.strOk z = true
  unfold PyData.strOk
  rw [Array.all_eq_true]
  intro i hi
  have := list_asc h z.cps[i] (by simp)
  exact decide_eq_true (by omega)
theorem any_ends (w : Str) : ([PyData.str ((("put" : String) : Str)), PyData.str ((("bend" : String) : Str))].any fun e => e.eqv (.str w)) = endsW w := by
  simp only [List.any_cons, List.any_nil, PyData.eqv, Bool.or_false]
  unfold endsW
  rw [Bool.eq_iff_iff]
  simp only [Bool.or_eq_true, beq_iff_eq, decide_eq_true_eq]
  constructor
  · rintro (z | z)
    · exact .inl z.symm
    · exact .inr z.symm
  · rintro (z | z)
    · exact .inl z.symm
    · exact .inr z.symm
theorem len_row_read (K : PySem.W.Frag) (A : Adr) : ∀ vs H Q E, sp_row_read K A vs H Q E → vs.length = 1 := by rintro vs H Q E ⟨_, rfl, _⟩; rfl
theorem rd_row_read {K : PySem.W.Frag} {mg : Str → Option Value} {A : Adr} (T : Txt K mg A) (vs : List V) (H : Hp) (Q : VK) (E : XK) (h : sp_row_read K A vs H Q E) : T_row_read K A E { nx := fun _ H' => Q .non H', rt := Q } (start ["row", "word", "many", "parts"] vs) H := by
  obtain ⟨v, rfl, h⟩ := h
  rcases h with ⟨⟨t, ht, hs⟩, he⟩ | ⟨z, rfl, hz, ha, q1, q2⟩
  · exact ⟨by decide, t, ht, Sel.yes (by rw [hs]; rfl) (he H (.refl H))⟩
  refine ⟨by decide, "str", rfl, Sel.no rfl ?_⟩
  obtain ⟨r, eW⟩ := W_head z
  generalize hwd : (PySem.Txt.partition z ((" " : String) : Str)).1 = w at eW
  have lz : z.length + 2 ≤ sizeLine := by rw [sizeLine_eq]; omega
  have ed : rowDue z = dueW (w :: r) := by unfold rowDue; rw [eW]
  rw [ed] at q2
  have q1 : ∀ x, dueW (w :: r) = some x → ∀ (p : Addr) (H' : Hp), Same H H' → RowAt H' p x → Q (.ref p) H' := fun x hx => q1 x (ed.trans hx)
  have lr : r.length ≤ 2000 := by
    have := W_len z
    rw [eW, List.length_cons] at this; omega
  have sr : ∀ x ∈ r, x.length ≤ 100000 := fun x hx => by
    have := W_short (z := z) (w := x) (by rw [eW]; exact List.mem_cons_of_mem _ hx)
    omega
  have aw : ascS w = true := W_asc ha (by rw [eW]; exact List.mem_cons_self)
  have rest : ∀ (H2 : Hp), Same H H2 → R_row_read_2 K A E { nx := fun _ H' => Q .non H', rt := Q } [some (.str z), some (.str w), none, none] H2 := by
    intro H2 s2
    refine ⟨A.g_WANTED, w, tabW, rfl, rfl, T.ob_WANTED, ?_⟩
    cases hm : wantD w with
    | none =>
      refine Sel.yes ?_ (q2 (due_no hm) H2 s2)
      have : valD w tabW = none := hm
      rw [this]; rfl
    | some m =>
      have hv : valD w tabW = some m := hm
      obtain ⟨m0, m4⟩ := want_le hm
      refine Sel.no (by rw [hv]; rfl) ?_
      refine ⟨A.g_WANTED, w, tabW, m, rfl, rfl, T.ob_WANTED, hv, ?_⟩
      refine .inr ⟨.str w, [.str ((("put" : String) : Str)), .str ((("bend" : String) : Str))], .str w, .inr (.tup (T.ob_WITH_TEXT.sq H2) (.cons (.str _) (.cons (.str _) .nil))), by decide +kernel, ok_str aw, by show 0 ≤ 140; decide, ?_⟩
      rw [any_ends]
      cases he : endsW w with
      | false =>
        refine Sel.yes rfl ?_
        refine ⟨rfl, z, _, W z, rfl, lz, by decide +kernel, .inl ⟨rfl, rfl⟩, fun p hp => ⟨1, rfl, .inl (.inl ⟨p, _, rfl, SqL.of upd_same, fun p2 hp2 => ?_⟩)⟩⟩
        have S2 := s2.trans ((Same.upd (o := .lst ((W z).map V.str)) hp).trans (Same.upd (o := .lst (cutV ((W z).map V.str) (some 1) none)) hp2))
        refine ⟨m, p2, r, rfl, by rw [upd_same, eW, cut_tail], by omega, sr, fun e1 e2 a H3 s3 ha' => ?_, fun ne H3 s3 => ?_⟩
        · refine ⟨by show 3 ≤ sizeLine; decide, fun p3 hp3 => ?_⟩
          exact q1 _ (due_plain_some hm he e1 e2) p3 _ ((S2.trans s3).trans (Same.upd hp3)) ⟨a, upd_same, by rw [upd_ne (ne_of_none ha' hp3)]; exact ha'⟩
        · exact q2 (due_plain_none hm he ne) H3 (S2.trans s3)
      | true =>
        refine Sel.no rfl ?_
        have hm1 := want_ends hm he
        have es : PySem.Txt.splitMax z ((" " : String) : Str) (m + 1) = cutW ((" " : String) : Str) (m.toNat + 1) (w :: r) := by
          have := split_max z ((" " : String) : Str) (k := m.toNat + 1) (by omega)
          rw [show ((m.toNat + 1 : Nat) : Int) = m + 1 by omega] at this
          rw [this]
          show cutW _ _ (W z) = _
          rw [eW]
        refine ⟨rfl, z, _, cutW ((" " : String) : Str) (m.toNat + 1) (w :: r), rfl, lz, by decide +kernel, .inr ⟨m + 1, rfl, by rw [decide_eq_false (by omega), decide_eq_false (by omega)]; rfl, es.symm⟩, fun p hp => ?_⟩
        refine ⟨1, rfl, -1, rfl, .inl (.inl ⟨p, _, rfl, SqL.of upd_same, fun p2 hp2 => ?_⟩)⟩
        have S1 : Same H (upd H2 p (.lst ((cutW ((" " : String) : Str) (m.toNat + 1) (w :: r)).map V.str))) := s2.trans (Same.upd hp)
        have hpp : p ≠ p2 := ne_of_none upd_same hp2
        by_cases hl : r.length ≤ m.toNat
        · have ec : cutW ((" " : String) : Str) (m.toNat + 1) (w :: r) = w :: r := by unfold cutW; rw [if_pos (by rw [List.length_cons]; omega)]
          have hne : ¬ (((r.take (r.length - 1)).length : Nat) : Int) = m := by rw [List.length_take]; omega
          refine ⟨m, p2, r.take (r.length - 1), rfl, by rw [upd_same, ec, cut_mid], by rw [List.length_take]; omega, fun x hx => sr x (List.mem_of_mem_take hx), fun e1 => absurd e1 hne, fun _ H3 s3 => ?_⟩
          exact q2 (due_text_none hm he fun y => by omega) H3 ((S1.trans (Same.upd hp2)).trans s3)
        · have ec : cutW ((" " : String) : Str) (m.toNat + 1) (w :: r) = w :: (r.take m.toNat ++ [Str.join ((" " : String) : Str) (r.drop m.toNat)]) := by unfold cutW; rw [if_neg (by rw [List.length_cons]; omega)]; rfl
          have lt : (r.take m.toNat).length = m.toNat := by rw [List.length_take]; omega
          have em : (r.take m.toNat ++ [Str.join ((" " : String) : Str) (r.drop m.toNat)]).take ((r.take m.toNat ++ [Str.join ((" " : String) : Str) (r.drop m.toNat)]).length - 1) = r.take m.toNat := by
            rw [List.length_append, List.length_singleton, Nat.add_sub_cancel, List.take_left]
          have ex : (cutW ((" " : String) : Str) (m.toNat + 1) (w :: r)).map V.str = (w :: r.take m.toNat).map V.str ++ [.str (Str.join ((" " : String) : Str) (r.drop m.toNat))] := by
            rw [ec, List.map_cons, List.map_append, List.map_cons]; rfl
          refine ⟨m, p2, r.take m.toNat, rfl, by rw [upd_same, ec, cut_mid, em], by omega, fun x hx => sr x (List.mem_of_mem_take hx), fun e1 e2 a H3 s3 ha' => ?_, fun ne H3 s3 => ?_⟩
          · refine .inl (.inl ⟨p, _, -1, .str (Str.join ((" " : String) : Str) (r.drop m.toNat)), rfl, rfl, SqL.of (s3 _ _ (by rw [upd_ne hpp]; exact upd_same)), by rw [ex]; exact atI_last _ _, ?_⟩)
            refine ⟨by show 3 ≤ sizeLine; decide, fun p3 hp3 => ?_⟩
            exact q1 _ (due_text_some hm he (by omega) e2) p3 _ (((S1.trans (Same.upd hp2)).trans s3).trans (Same.upd hp3)) ⟨a, upd_same, by rw [upd_ne (ne_of_none ha' hp3)]; exact ha'⟩
          · exact q2 (due_text_none hm he fun y => ne ⟨by rw [lt]; omega, y.2⟩) H3 ((S1.trans (Same.upd hp2)).trans s3)
  refine ⟨rfl, z, _, rfl, rfl, by omega, by decide +kernel, fun p hp => ?_⟩
  refine .inl (.inr (.inl ⟨p, _, 0, .str w, rfl, rfl, SqT.of upd_same, by rw [hwd]; rfl, ?_⟩))
  exact rest _ (Same.upd hp)
end Rs
namespace Rs
open PySem PySem.Spec PyProof.Rows L2
theorem len__law_refused (K : PySem.W.Frag) (A : Adr) : ∀ vs H Q E, sp__law_refused K A vs H Q E → vs.length = 1 := by rintro vs H Q E ⟨v, rfl, _⟩; rfl
theorem rd__law_refused {K : PySem.W.Frag} {mg : Str → Option Value} {A : Adr} (T : Txt K mg A) (vs : List V) (H : Hp) (Q : VK) (E : XK) (h : sp__law_refused K A vs H Q E) : T__law_refused K A { nx := fun _ H' => Q .non H', rt := Q } (start ["_law_thing", "e"] vs) H := by
  obtain ⟨v, rfl, h, q⟩ := h
  let EH : XK := fun cls _ H' => ∃ C, cls = Value.ref C ∧ ExcOk K C ∧ hAs K A.c_StampError 1 (tRet (tCB (kIsiE K) (tCons (mVar 1) (tCons (tC (.ref A.c_NoRow)) (tNil))))) hNone { nx := R__law_refused_1 K A { nx := fun _ H' => Q .non H', rt := Q }, rt := Q } [some v, none] C H'
  have err : ∀ H', Same H H' → EH (.ref A.c_NoRow) none H' := fun H' s => by
    refine ⟨A.c_NoRow, rfl, T.eo_NoRow, true, T.sb_NoRow_StampError, Sel.t fun a ha => ?_⟩
    refine ⟨a, A.c_NoRow, true, .ref A.c_NoRow, .ref A.c_NoRow, rfl, upd_same, T.eo_NoRow, T.eg_NoRow, rfl, fun u e => e, T.ki_NoRow_NoRow, ?_⟩
    exact q _ (s.trans (Same.upd ha))
  refine ⟨v, rfl, ?_⟩
  rcases h with h | ⟨z, rfl, hz, ha, hd⟩
  · exact .inl ⟨h, err⟩
  · exact .inr ⟨z, rfl, hz, ha, fun xs e => (by rw [hd] at e; cases e), fun _ => err⟩
theorem headKey {z : Str} {d : Nat} {b : Bool} {R G : Prop} (hk : b = !(decide (d = 48) && !decide (z.cps.toList = [48]))) (no : b = false → R) (go : b = true → G) :
    Sel (decide ((⟨#[d]⟩ : Str) = (("0" : String) : Str))) (Sel (!decide (z = (("0" : String) : Str))) R G) (Sel false R G) := by
  refine Sel.dec (fun e => ?_) (fun e => Sel.f (go ?_))
  · have e := zero_str.mp e
    refine Sel.ndec (fun e2 => no ?_) (fun e2 => go ?_)
    · rw [hk, decide_eq_true e, decide_eq_false fun y => e2 (zero_is.mpr y)]; rfl
    · rw [hk, decide_eq_true e, decide_eq_true (zero_is.mp e2)]; rfl
  · rw [hk, decide_eq_false fun y => e (zero_str.mpr y)]; rfl
theorem filt_len : ∀ l : List Nat, ((l.filter isD).length = l.length) ↔ l.all isD = true
  | [] => by simp
  | d :: r => by
    have ih := filt_len r
    have hle : (r.filter isD).length ≤ r.length := List.length_filter_le _ _
    cases h : isD d with
    | true =>
      rw [List.filter_cons_of_pos h, List.all_cons, h, Bool.true_and, List.length_cons, List.length_cons, ← ih]
      omega
    | false =>
      rw [List.filter_cons_of_neg (by rw [h]; decide), List.all_cons, h, Bool.false_and, List.length_cons]
      constructor
      · intro z; omega
      · intro z; cases z
theorem len__law_figures (K : PySem.W.Frag) (A : Adr) : ∀ vs H Q E, sp__law_figures K A vs H Q E → vs.length = 1 := by rintro vs H Q E ⟨_, rfl, _⟩; rfl
theorem rd__law_figures {K : PySem.W.Frag} {mg : Str → Option Value} {A : Adr} (T : Txt K mg A) (vs : List V) (H : Hp) (Q : VK) (E : XK) (h : sp__law_figures K A vs H Q E) : T__law_figures K A { nx := fun _ H' => Q .non H', rt := Q } (start ["_law_word_here"] vs) H := by
  obtain ⟨z, rfl, hz, ha, q⟩ := h
  have ml := str_len z
  have no : okFig z = false → Q (.bl false) H := fun e => by
    have := q H (.refl H)
    rw [e] at this; exact this
  refine Sel.dec (fun e => Sel.t (no ?_)) (fun e0 => .inl ⟨line_ge (by omega), Sel.dec (fun h20 => Sel.t (no ?_)) (fun h20 => ?_)⟩)
  · rw [e]; decide +kernel
  · unfold okFig okL
    rw [decide_eq_false fun y => by omega]; rfl
  have h1 : 1 ≤ z.length := by
    rcases Nat.eq_zero_or_pos z.length with y | y
    · exact absurd (cps_ext (x := z) (y := (("" : String) : Str)) (by rw [List.eq_nil_of_length_eq_zero (ml.symm.trans y)]; decide)) e0
    · exact y
  obtain ⟨d, dr, edr⟩ : ∃ d dr, z.cps.toList = d :: dr := by
    cases h : z.cps.toList with
    | nil => rw [h] at ml; simp at ml; omega
    | cons d dr => exact ⟨d, dr, rfl⟩
  have hk : okFig z = (z.cps.toList.all isD && !(decide (d = 48) && !decide (z.cps.toList = [48]))) := by
    unfold okFig okL
    rw [decide_eq_true ⟨by omega, by omega⟩, edr]; rfl
  refine .inl (.inr (.inr ⟨z, 0, d, rfl, rfl, line_ge (by omega), atI_nat (i := 0) (by rw [edr]; rfl), ?_⟩))
  refine headKey (z := z) (d := d) rfl (fun h => no (by rw [hk, h, Bool.and_false])) (fun h => ?_)
  rw [h, Bool.and_true] at hk
  refine ⟨ha, fun D hD => ?_⟩
  refine comp_by (Items.str z) (fun i ys H2 => ys.length = ((z.cps.toList.take i).filter isD).length ∧ H2 = upd H D (.lst ys)) (fun _ _ _ _ _ => trivial) ⟨rfl, rfl⟩ (fun i ys H2 hi ⟨e1, e2⟩ => ?_) (fun ys H2 ⟨e1, e2⟩ => ?_)
  · subst e2
    have hi2 : i < z.cps.toList.length := by omega
    have ec : z.cps.getD i 0 = z.cps.toList[i] := by
      have hs : i < z.cps.size := hi
      rw [Array.getElem_toList]
      unfold Array.getD
      rw [dif_pos hs]; rfl
    have et : z.cps.toList.take (i + 1) = z.cps.toList.take i ++ [z.cps.toList[i]] := by rw [List.take_add_one, List.getElem?_eq_getElem hi2]; rfl
    have hle : ((z.cps.toList.take i).filter isD).length ≤ i := Nat.le_trans (List.length_filter_le _ _) (by rw [List.length_take]; omega)
    show (if (!(Builtin.Str.occurrences "0123456789" ⟨#[z.cps.getD i 0]⟩ 0 ("0123456789" : Str).length 1).isEmpty) = true then _ else _)
    rw [in_fig, ec]
    cases hd : isD z.cps.toList[i] with
    | true =>
      refine iteT ⟨upd_same, ?_, CWd.next hi ⟨?_, upd_upd⟩⟩
      · exact Nat.lt_of_le_of_lt (m := 2000) (by omega) (by rw [sizeLine_eq]; decide)
      · rw [et, List.filter_append, List.length_append, List.length_append, e1, List.filter_cons_of_pos hd]; rfl
    | false =>
      refine iteF (CWd.next hi ⟨?_, rfl⟩)
      rw [et, List.filter_append, List.length_append, e1, List.filter_cons_of_neg (by rw [hd]; decide)]; rfl
  · subst e2
    rw [ml, List.take_length] at e1
    refine .inl (.inl ⟨_, SqL.of upd_same, .inl ⟨line_ge (by omega), ?_⟩⟩)
    have eq : okFig z = decide (((ys.length : Nat) : Int) = ((z.length : Nat) : Int)) := by
      rw [hk, Bool.eq_iff_iff, decide_eq_true_eq, ← filt_len, e1]
      omega
    show Q (.bl (decide (((ys.length : Nat) : Int) = ((z.length : Nat) : Int)))) _
    rw [← eq]; exact q _ (Same.upd hD)
def dW (D : List (Str × Int)) : List (Key × V) := D.map fun p => (Sum.inr p.1, V.int p.2)
theorem valV_dW {k : Str} : ∀ D : List (Str × Int), valV (dW D) (Sum.inr k : Key) = (valD k D).map V.int
  | [] => rfl
  | (x, n) :: D => by
    have e0 : dW ((x, n) :: D) = (Sum.inr x, V.int n) :: dW D := rfl
    rw [e0]
    by_cases e : k = x
    · rw [valV_pos (by rw [e]), valD, if_pos e]; rfl
    · rw [valV_neg (fun z => e (Sum.inr.inj z).symm), valV_dW D, valD, if_neg e]
theorem merge_new : ∀ (D E : List (Str × Int)), ((E ++ D).map (·.1)).Nodup → mergeK (dW E) (dW D) = dW (E ++ D)
  | [], E, h => by rw [List.append_nil]; rfl
  | (k, n) :: D, E, h => by
    have hk : valD k E = none := by
      cases hv : valD k E with
      | none => rfl
      | some m =>
        have hm := val_mem hv
        rw [List.map_append, List.nodup_append] at h
        exact absurd rfl (h.2.2 k (List.mem_map.mpr ⟨_, hm, rfl⟩) k List.mem_cons_self)
    show mergeK (putK (dW E) (Sum.inr k) (.int n)) (dW D) = _
    rw [putK_new _ (by rw [valV_dW, hk]; rfl)]
    have e : dW E ++ [(Sum.inr k, V.int n)] = dW (E ++ [(k, n)]) := by unfold dW; rw [List.map_append]; rfl
    rw [e, merge_new D (E ++ [(k, n)]) (by rw [List.append_assoc]; exact h), List.append_assoc]; rfl
def tab1 : List (Str × Int) := [("put", 2), ("take", 2), ("make", 1), ("split", 1), ("bend", 1), ("seat", 1), ("follow", 1)]
def tab2 : List (Str × Int) := [("ask", 3), ("span", 4), ("meet", 2), ("lies", 0)]
theorem len__law_wanted (K : PySem.W.Frag) (A : Adr) : ∀ vs H Q E, sp__law_wanted K A vs H Q E → vs.length = 1 := by rintro vs H Q E ⟨_, rfl, _⟩; rfl
theorem rd__law_wanted {K : PySem.W.Frag} {mg : Str → Option Value} {A : Adr} (T : Txt K mg A) (vs : List V) (H : Hp) (Q : VK) (E : XK) (h : sp__law_wanted K A vs H Q E) : T__law_wanted K A { nx := fun _ H' => Q .non H', rt := Q } (start ["_law_word_here", "_law_wanted_here"] vs) H := by
  obtain ⟨z, rfl, q⟩ := h
  intro p hp
  refine ⟨upd_same, dW tab1, rfl, by decide, ?_⟩
  rw [show mergeK [] (dW tab1) = dW tab1 from merge_new tab1 [] (by decide +kernel), upd_upd]
  have g1 : (upd H p (.dK (dW tab1))) p = some (.dK (dW tab1)) := upd_same
  refine ⟨.inr (.inr (.inl ⟨rfl, .inl ⟨_, g1⟩⟩)), fun p2 hp2 => ⟨upd_same, dW tab2, rfl, by decide, ?_⟩⟩
  rw [show mergeK [] (dW tab2) = dW tab2 from merge_new tab2 [] (by decide +kernel), upd_upd]
  have hne : p ≠ p2 := ne_of_none g1 hp2
  refine ⟨p, p2, dW tab1, dW tab2, rfl, rfl, hne, by rw [upd_ne hne]; exact g1, upd_same, by rw [sizeLine_eq]; decide, by decide +kernel, ?_⟩
  refine ⟨.inr (.inr (.inl ⟨rfl, .inl ⟨_, upd_same⟩⟩)), ?_⟩
  refine ⟨p, .str z, .int (-1), valV (dW tab1 ++ dW tab2) (Sum.inr z : Key), rfl, rfl, DGet.k (k := Sum.inr z) upd_same, ?_⟩
  have e : (valV (dW tab1 ++ dW tab2) (Sum.inr z : Key)).getD (.int (-1)) = .int ((wantD z).getD (-1)) := by
    rw [show dW tab1 ++ dW tab2 = dW tabW from rfl, valV_dW]
    unfold wantD
    cases valD z tabW <;> rfl
  rw [e]
  exact q _ (((Same.upd hp).trans (Same.upd hp2)).put hp)
end Rs
namespace Rs
open PySem PySem.Spec PyProof.Rows L2
theorem due_if {w : Str} {r : List Str} {k : Nat} (hm : wantD w = some (k : Int)) : dueW (w :: r) = if (r.length < k + (if endsW w = true then 1 else 0) ∨ (endsW w = false ∧ k < r.length)) then none
    else if (r.take k).all okFig = true then some (w, (r.take k).map numOf, PySem.Txt.join ((" " : String) : Str) (r.drop k)) else none := by
  unfold dueW
  dsimp only
  rw [hm]; rfl
theorem len__law_due (K : PySem.W.Frag) (A : Adr) : ∀ vs H Q E, sp__law_due K A vs H Q E → vs.length = 1 := by rintro vs H Q E ⟨_, rfl, _⟩; rfl
theorem rd__law_due {K : PySem.W.Frag} {mg : Str → Option Value} {A : Adr} (T : Txt K mg A) (vs : List V) (H : Hp) (Q : VK) (E : XK) (h : sp__law_due K A vs H Q E) : T__law_due K A { nx := fun _ H' => Q .non H', rt := Q } (start ["_law_row", "_law_words", "_law_many", "_law_ends", "_law_numbers", "_law_word_here"] vs) H := by
  obtain ⟨z, rfl, hz, ha, q1, q2⟩ := h
  obtain ⟨r, eW⟩ := W_head z
  generalize hwd : (PySem.Txt.partition z ((" " : String) : Str)).1 = w at eW
  have lz : z.length + 2 ≤ sizeLine := by rw [sizeLine_eq]; omega
  have ed : rowDue z = dueW (w :: r) := by unfold rowDue; rw [eW]
  rw [ed] at q2
  have q1 : ∀ x, dueW (w :: r) = some x → ∀ (p : Addr) (H' : Hp), Same H H' → RowAt H' p x → Q (.ref p) H' := fun x hx => q1 x (ed.trans hx)
  have lr : r.length ≤ 2000 := by
    have := W_len z
    rw [eW, List.length_cons] at this; omega
  have sr : ∀ x ∈ r, x.length ≤ 2000 := fun x hx => by
    have := W_short (z := z) (w := x) (by rw [eW]; exact List.mem_cons_of_mem _ hx)
    omega
  have ar : ∀ x ∈ r, ascS x = true := fun x hx => W_asc ha (by rw [eW]; exact List.mem_cons_of_mem _ hx)
  have hsum : (r.map (·.length)).sum ≤ 2000 := by
    have := W_sum z
    rw [eW, List.map_cons, List.sum_cons] at this; omega
  refine ⟨rfl, z, _, w :: r, rfl, lz, by decide +kernel, .inl ⟨rfl, eW.symm⟩, fun p hp => ?_⟩
  -- the loop and the end
  have loop : ∀ (k : Nat) (ev : Bool) (H2 : Hp), Same H H2 → H2 p = some (.lst ((w :: r).map V.str)) → (dueW (w :: r) = (if (r.take k).all okFig = true then some (w, (r.take k).map numOf, PySem.Txt.join ((" " : String) : Str) (r.drop k)) else none)) →
      R__law_due_4 K A { nx := fun _ H' => Q .non H', rt := Q } [some (.str z), some (.ref p), some (.int (k : Int)), some (.bl ev), none, none] H2 := by
    intro k ev H2 s2 h2 hdue
    refine ⟨by show 0 ≤ sizeLine; decide, fun N hN => ?_⟩
    have hpN : p ≠ N := ne_of_none h2 hN
    refine ⟨1, rfl, (k : Int) + 1, rfl, .inl (.inl ⟨p, _, rfl, SqL.of (by rw [upd_ne hpN]; exact h2), fun p2 hp2 => ⟨p2, rfl, .inl ⟨⟨_, SqL.of upd_same⟩, ?_⟩⟩⟩)⟩
    rw [cut_some]
    have hN2 : N ≠ p2 := ne_of_none upd_same hp2
    have hp2' : H2 p2 = none := by
      have := hp2
      rwa [upd_ne hN2.symm] at this
    refine for_list (xs := (r.take k).map V.str) (fun i σ H5 => ∃ kv : Option V, σ = [some (.str z), some (.ref p), some (.int (k : Int)), some (.bl ev), some (.ref N), kv] ∧ ((r.take k).take i).all okFig = true ∧ H5 N = some (.lst ((((r.take k).take i).map numOf).map V.int)) ∧ H5 p2 = some (.lst ((r.take k).map V.str)) ∧ Same H2 H5)
      ⟨none, rfl, rfl, by rw [upd_ne hN2]; exact upd_same, upd_same, (Same.upd hN).trans (Same.upd hp2)⟩ (fun i σ H5 _ ⟨_, _, _, _, e, _⟩ => SqL.of e) ?_ ?_
    · rintro i x σ H5 hx ⟨kv, rfl, hall, hNl, hpl, s5⟩
      rw [List.getElem?_map] at hx
      obtain ⟨y, hy, ey⟩ := Option.map_eq_some_iff.mp hx
      subst ey
      have hmem : y ∈ r := List.mem_of_mem_take (List.mem_of_getElem? hy)
      have et : (r.take k).take (i + 1) = (r.take k).take i ++ [y] := by rw [List.take_add_one, hy]; rfl
      refine ⟨y, rfl, sr y hmem, ar y hmem, fun H6 s6 => ?_⟩
      cases hok : okFig y with
      | false =>
        refine Sel.yes rfl (q2 ?_ _ ((s2.trans s5).trans s6))
        rw [hdue, if_neg fun hh => ?_]
        have := List.all_eq_true.mp hh y (List.mem_of_getElem? hy)
        rw [hok] at this; cases this
      | true =>
        obtain ⟨it, l640⟩ := int_of hok
        have hN6 := s6 _ _ hNl
        refine Sel.no rfl ⟨.inl ⟨rfl, _, SqL.of hN6⟩, _, it, l640, N, _, _, rfl, rfl, hN6, ?_, ?_⟩
        · rw [List.length_map, List.length_map, List.length_take, List.length_take]
          exact Nat.lt_of_le_of_lt (m := 2000) (by omega) (by rw [sizeLine_eq]; decide)
        · refine ⟨_, rfl, ?_, ?_, ?_, (s5.trans s6).put hN⟩
          · rw [et, List.all_append, hall]; show (true && (okFig y && true)) = true; rw [hok]; rfl
          · rw [upd_same, et, List.map_append, List.map_append]; rfl
          · rw [upd_ne hN2.symm]; exact s6 _ _ hpl
    · rintro σ H5 ⟨kv, rfl, hall, hNl, hpl, s5⟩
      rw [List.length_map, List.take_length] at hall hNl
      rw [if_pos hall] at hdue
      have hp5 := s5 _ _ h2
      refine .inl (.inl ⟨p, _, 0, .str w, rfl, rfl, SqL.of hp5, atI_nat (i := 0) rfl, ?_⟩)
      refine ⟨rfl, (k : Int) + 1, rfl, .inl (.inl ⟨p, _, rfl, SqL.of hp5, fun p3 hp3 => ?_⟩)⟩
      refine ⟨_, p3, r.drop k, rfl, rfl, by rw [upd_same, cut_rest], ?_, ?_⟩
      · have := sum_drop r k
        rw [sp_len, List.length_drop]; omega
      · refine ⟨by show 3 ≤ sizeLine; decide, fun p4 hp4 => ?_⟩
        have hN3 : N ≠ p3 := ne_of_none hNl hp3
        have h3 : (upd H5 p3 (.lst (cutV ((w :: r).map V.str) (some ((k : Int) + 1)) none))) N = some (.lst (((r.take k).map numOf).map V.int)) := by rw [upd_ne hN3]; exact hNl
        exact q1 _ hdue p4 _ (((s2.trans s5).trans (Same.upd hp3)).trans (Same.upd hp4)) ⟨N, upd_same, by rw [upd_ne (ne_of_none h3 hp4)]; exact h3⟩
  -- the conditions
  have rest : ∀ (mv : Int) (ev : Bool) (H2 : Hp), mv = (wantD w).getD (-1) → ev = endsW w → Same H H2 → H2 p = some (.lst ((w :: r).map V.str)) →
      R__law_due_3 K A { nx := fun _ H' => Q .non H', rt := Q } [some (.str z), some (.ref p), some (.int mv), some (.bl ev), none, none] H2 := by
    intro mv ev H2 em ee s2 h2
    cases hm : wantD w with
    | none =>
      rw [hm] at em
      subst em
      exact Sel.yes (by decide) (Sel.t (q2 (due_no hm) H2 s2))
    | some m =>
      rw [hm] at em
      have em : mv = m := em
      subst em
      obtain ⟨m0, m4⟩ := want_le hm
      obtain ⟨k, rfl⟩ := Int.eq_ofNat_of_zero_le m0
      have dif := due_if (r := r) hm
      rw [← ee] at dif
      refine Sel.no (decide_eq_false (by omega)) (.inl (.inl ⟨_, SqL.of h2, ?_⟩))
      rw [List.length_map, List.length_cons]
      cases ev with
      | false =>
        refine Sel.dec (fun hl => Sel.t (q2 ?_ H2 s2)) (fun hl => ?_)
        · have hl : ((r.length + 1 : Nat) : Int) < (k : Int) + 1 + 0 := hl
          exact dif.trans (if_pos (.inl (by rw [if_neg (by decide)]; omega)))
        have hl : ¬ ((r.length + 1 : Nat) : Int) < (k : Int) + 1 + 0 := hl
        refine Sel.t (.inl (.inl ⟨_, SqL.of h2, ?_⟩))
        rw [List.length_map, List.length_cons]
        refine Sel.dec (fun hg => q2 ?_ H2 s2) (fun hg => loop k false H2 s2 h2 ?_)
        · have hg : ((r.length + 1 : Nat) : Int) > (k : Int) + 1 := hg
          rw [dif, if_pos (.inr ⟨rfl, by omega⟩)]
        · have hg : ¬ ((r.length + 1 : Nat) : Int) > (k : Int) + 1 := hg
          rw [dif, if_neg]
          rintro (y | y)
          · rw [if_neg (by decide)] at y; omega
          · omega
      | true =>
        refine Sel.dec (fun hl => Sel.t (q2 ?_ H2 s2)) (fun hl => ?_)
        · have hl : ((r.length + 1 : Nat) : Int) < (k : Int) + 1 + 1 := hl
          exact dif.trans (if_pos (.inl (by rw [if_pos rfl]; omega)))
        have hl : ¬ ((r.length + 1 : Nat) : Int) < (k : Int) + 1 + 1 := hl
        refine Sel.f (Sel.f (loop k true H2 s2 h2 ?_))
        rw [dif, if_neg]
        rintro (y | y)
        · rw [if_pos rfl] at y; omega
        · cases y.1
  refine .inl (.inl ⟨p, _, 0, .str w, rfl, rfl, SqL.of upd_same, atI_nat (i := 0) rfl, w, rfl, fun H2 s2 => ?_⟩)
  have hp2 := s2 _ _ (upd_same (o := .lst ((w :: r).map V.str)))
  have S2 : Same H H2 := (Same.upd hp).trans s2
  refine .inl (.inl ⟨p, _, 0, .str w, rfl, rfl, SqL.of hp2, atI_nat (i := 0) rfl, ?_⟩)
  refine Sel.dec (fun e => ?_) (fun e => .inl (.inl ⟨p, _, 0, .str w, rfl, rfl, SqL.of hp2, atI_nat (i := 0) rfl, ?_⟩))
  · exact rest _ true H2 rfl (by unfold endsW; rw [decide_eq_true e]; rfl) S2 hp2
  · exact rest _ _ H2 rfl (by unfold endsW; rw [decide_eq_false e, Bool.false_or]) S2 hp2
end Rs
namespace Rs
open PySem PySem.Spec PyProof.Rows L2
theorem dats_ints (K : PySem.W.Frag) (H : Hp) : ∀ ns : List Int, DatVs K H (ns.map V.int) (ns.map PyData.int)
  | [] => .nil
  | n :: r => .cons (.int n) (dats_ints K H r)
theorem lay_ints : ∀ ns : List Int, PyData.canLayAll0 (ns.map PyData.int) = true
  | [] => rfl
  | n :: r => by
    show (PyData.canLay0 (.int n) && PyData.canLayAll0 (r.map PyData.int)) = true
    rw [lay_ints r]; rfl
theorem depth_ints : ∀ ns : List Int, PyData.depthAll (ns.map PyData.int) = 0
  | [] => rfl
  | n :: r => by
    show max (PyData.depth (.int n)) (PyData.depthAll (r.map PyData.int)) = 0
    rw [depth_ints r]; rfl
theorem eqv_ints : ∀ ns : List Int, PyData.eqvAll (ns.map PyData.int) (ns.map PyData.int) = true
  | [] => rfl
  | n :: r => by
    show (PyData.eqv (.int n) (.int n) && PyData.eqvAll (r.map PyData.int) (r.map PyData.int)) = true
    rw [eqv_ints r]; simp [PyData.eqv]
def rowD (x : Str × List Int × Str) : PyData := .tuple [.str x.1, .list (x.2.1.map PyData.int), .str x.2.2]
theorem row_dat {K : PySem.W.Frag} {H : Hp} {p : Addr} {x : Str × List Int × Str} (h : RowAt H p x) : DatV K H (.ref p) (rowD x) := by
  obtain ⟨r, h1, h2⟩ := h
  exact .tup (SqT.of h1) (.cons (.str _) (.cons (.lst (SqL.of h2) (dats_ints K H _)) (.cons (.str _) .nil)))
theorem row_lay {x : Str × List Int × Str} (h1 : ascS x.1 = true) (h2 : ascS x.2.2 = true) : (rowD x).canLay0 = true := by
  show ((PyData.str x.1).canLay0 && (PyData.canLayAll0 (x.2.1.map PyData.int) && ((PyData.str x.2.2).canLay0 && true))) = true
  rw [ok_str h1, ok_str h2, lay_ints]; rfl
theorem row_depth (x : Str × List Int × Str) : (rowD x).depth ≤ 150 := by
  show max 0 (max (PyData.depthAll (x.2.1.map PyData.int) + 1) (max 0 0)) + 1 ≤ 150
  rw [depth_ints]; decide
theorem row_eqv (x : Str × List Int × Str) : (rowD x).eqv (rowD x) = true := by
  show (PyData.eqv (.str x.1) (.str x.1) && (PyData.eqvAll (x.2.1.map PyData.int) (x.2.1.map PyData.int) && (PyData.eqv (.str x.2.2) (.str x.2.2) && true))) = true
  rw [eqv_ints]; simp [PyData.eqv]
theorem getD_int {ns : List Int} {i : Nat} (h : i < ns.length) : (ns.map V.int).getD i .non = .int ns[i] := by
  rw [List.getD_eq_getElem?_getD, List.getElem?_map, List.getElem?_eq_getElem h]; rfl
theorem len__law_alike (K : PySem.W.Frag) (A : Adr) : ∀ vs H Q E, sp__law_alike K A vs H Q E → vs.length = 2 := by rintro vs H Q E ⟨_, _, _, rfl, _⟩; rfl
theorem rd__law_alike {K : PySem.W.Frag} {mg : Str → Option Value} {A : Adr} (T : Txt K mg A) (vs : List V) (H : Hp) (Q : VK) (E : XK) (h : sp__law_alike K A vs H Q E) : T__law_alike K A { nx := fun _ H' => Q .non H', rt := Q } (start ["_law_found", "_law_due_here"] vs) H := by
  obtain ⟨p, a, x, rfl, rp, ra, hl, a1, a2, q⟩ := h
  obtain ⟨r, hp, hr⟩ := id rp
  obtain ⟨ra', ha, hra⟩ := id ra
  have ty : tyN H (.ref p) = some "tuple" := by unfold tyN; dsimp only; rw [hp]
  have tyr : tyN H (.ref r) = some "list" := by unfold tyN; dsimp only; rw [hr]
  refine ⟨by decide, "tuple", ty, Sel.no rfl (.inl (.inr (.inl ⟨_, SqT.of hp, Sel.no rfl ?_⟩)))⟩
  refine .inl (.inr (.inl ⟨p, _, 0, .str x.1, rfl, rfl, SqT.of hp, rfl, by decide, "str", rfl, Sel.no rfl ?_⟩))
  refine .inl (.inr (.inl ⟨p, _, 1, .ref r, rfl, rfl, SqT.of hp, rfl, by decide, "list", tyr, Sel.no rfl ?_⟩))
  refine .inl (.inr (.inl ⟨p, _, 2, .str x.2.2, rfl, rfl, SqT.of hp, rfl, by decide, "str", rfl, Sel.no rfl ?_⟩))
  refine ⟨rowD x, rowD x, row_dat rp, row_dat ra, row_lay a1 a2, row_lay a1 a2, row_depth x, Sel.no (by rw [row_eqv]; rfl) ?_⟩
  refine .inl (.inr (.inl ⟨p, _, 1, .ref r, rfl, rfl, SqT.of hp, rfl, r, rfl, .inl ⟨⟨_, SqL.of hr⟩, fun D hD => ?_⟩⟩))
  have hrD : r ≠ D := ne_of_none hr hD
  refine comp_by (Items.list (xs := x.2.1.map V.int) .non) (fun i ys H2 => ys.length = i ∧ H2 = upd H D (.lst ys)) (fun i ys H2 hi ⟨_, e2⟩ => ?_) ⟨rfl, rfl⟩ (fun i ys H2 hi ⟨e1, e2⟩ => ?_) (fun ys H2 ⟨e1, e2⟩ => ?_)
  · rw [e2]; exact SqL.of (by rw [upd_ne hrD]; exact hr)
  · subst e2
    have hi' : i < x.2.1.length := by rw [List.length_map] at hi; exact hi
    have e := getD_int hi'
    refine ⟨by decide, "int", (congrArg (tyN _) e).trans rfl, Sel.yes rfl ⟨by decide, "int", (congrArg (tyN _) e).trans rfl, ?_⟩⟩
    refine Eq.mpr (if_pos rfl) ?_
    refine ⟨upd_same, ?_, CWd.next hi ⟨by rw [List.length_append, e1]; rfl, upd_upd⟩⟩
    rw [e1]
    exact Nat.lt_of_lt_of_le hi' (Nat.le_trans hl (line_ge (by decide)))
  · subst e2
    refine .inl (.inl ⟨_, SqL.of upd_same, ?_⟩)
    have s2 : Same H (upd H D (.lst ys)) := Same.upd hD
    refine .inl (.inr (.inl ⟨a, _, 1, .ref ra', rfl, rfl, SqT.of (s2 _ _ ha), rfl, .inl (.inl ⟨_, SqL.of (s2 _ _ hra), ?_⟩)⟩))
    show Q (.bl (decide (((ys.length : Nat) : Int) = (((x.2.1.map V.int).length : Nat) : Int)))) _
    rw [e1, decide_eq_true rfl]
    exact q _ s2
theorem len__law_cell_at (K : PySem.W.Frag) (A : Adr) : ∀ vs H Q E, sp__law_cell_at K A vs H Q E → vs.length = 2 := by rintro vs H Q E ⟨b, _, _, rfl, _⟩; rfl
theorem rd__law_cell_at {K : PySem.W.Frag} {mg : Str → Option Value} {A : Adr} (T : Txt K mg A) (vs : List V) (H : Hp) (Q : VK) (E : XK) (h : sp__law_cell_at K A vs H Q E) : T__law_cell_at K A { nx := fun _ H' => Q .non H', rt := Q } (start ["_law_script", "_law_k"] vs) H := by
  obtain ⟨a, ns, k, rfl, hS, h0, q⟩ := h
  refine .inl (.inl ⟨_, hS, ?_⟩)
  refine Sel.dec (fun h => ?_) (fun h => ?_)
  · rw [List.length_map] at h
    refine .inl (.inl ⟨a, _, k, _, rfl, rfl, hS, atI_lt h0 (by rw [List.length_map]; exact h), ?_⟩)
    have e : (ns.map V.int).getD k.toNat .non = .int (ns.getD k.toNat 0) := by
      have : k.toNat < ns.length := by omega
      rw [List.getD_eq_getElem?_getD, List.getD_eq_getElem?_getD, List.getElem?_map, List.getElem?_eq_getElem this]; rfl
    rw [e]; exact q _
  · exact q 0
theorem atI_ex {α : Type} {xs : List α} {i : Int} (h0 : 0 ≤ i) (h1 : i < xs.length) : ∃ c, atI xs i = some c ∧ c ∈ xs := by
  unfold atI ixN
  rw [if_pos h0, if_pos h1]
  have : i.toNat < xs.length := by omega
  exact ⟨xs[i.toNat], by show xs[i.toNat]? = _; rw [List.getElem?_eq_getElem this], List.getElem_mem _⟩
theorem pick {ws : List Str} {i : Int} (h0 : 0 ≤ i) (h1 : i < ws.length) : ∃ w, atI (ws.map V.str) i = some (.str w) ∧ w ∈ ws := by
  obtain ⟨c, h, hm⟩ := atI_ex (xs := ws.map V.str) h0 (by rw [List.length_map]; exact h1)
  obtain ⟨w, hw, e⟩ := List.mem_map.mp hm
  exact ⟨w, by rw [h, e], hw⟩
theorem asc_app {x y : Str} (h1 : ascS x = true) (h2 : ascS y = true) : ascS (x ++ y) = true := by
  unfold ascS at h1 h2 ⊢
  show (x.cps ++ y.cps).all _ = true
  rw [Array.all_append, h1, h2]; rfl
theorem join_asc {y : Str} (hy : ascS y = true) : ∀ ws : List Str, (∀ w ∈ ws, ascS w = true) → ascS (Str.join y ws) = true
  | [], _ => by show ascS Str.empty = true; decide +kernel
  | [x], h => h x List.mem_cons_self
  | x :: x2 :: r, h => asc_app (asc_app (h x List.mem_cons_self) hy) (join_asc hy (x2 :: r) fun w hw => h w (List.mem_cons_of_mem _ hw))
theorem asc_int {i : Int} (h : 0 ≤ i) : ascS ((toString i : String) : Str) = true := by
  obtain ⟨n, rfl⟩ := Int.eq_ofNat_of_zero_le h
  refine asc_list fun c hc => ?_
  rw [PySem.W.KIN.signs_num n] at hc
  obtain ⟨ch, hch, e⟩ := List.mem_map.mp hc
  have := digit_range (Nat.isDigit_of_mem_toDigits (by decide) (by decide) hch)
  rw [← e]; omega
def signS : Str := " !\"#$&'()*+,-./0123456789:;<=>?@ABCDEFGHIJKLMNOPQRSTUVWXYZ[\\]^_`abcdefghijklmnopqrstuvwxyz{|}~"
theorem signS_len : signS.cps.toList.length = 94 := by decide +kernel
theorem signS_asc : ∀ c ∈ signS.cps.toList, c < 128 := by decide +kernel
theorem sum_ones : ∀ (xs : List Str), (∀ x ∈ xs, x.length = 1 ∧ ascS x = true) → (xs.map (·.length)).sum = xs.length
  | [], _ => rfl
  | x :: r, h => by
    rw [List.map_cons, List.sum_cons, List.length_cons, sum_ones r fun y hy => h y (List.mem_cons_of_mem _ hy), (h x List.mem_cons_self).1]; omega
theorem join0_len : ∀ xs : List Str, (Str.join (("" : String) : Str) xs).length = (xs.map (·.length)).sum
  | [] => by decide
  | x :: r => by
    rw [join_len _ _ (by simp)]
    have : (("" : String) : Str).length = 0 := by decide
    rw [this]; omega
theorem len__law_signs (K : PySem.W.Frag) (A : Adr) : ∀ vs H Q E, sp__law_signs K A vs H Q E → vs.length = 2 := by rintro vs H Q E ⟨b, _, rfl, _⟩; rfl
theorem rd__law_signs {K : PySem.W.Frag} {mg : Str → Option Value} {A : Adr} (T : Txt K mg A) (vs : List V) (H : Hp) (Q : VK) (E : XK) (h : sp__law_signs K A vs H Q E) : T__law_signs K A { nx := fun _ H' => Q .non H', rt := Q } (start ["_law_cell", "_law_many", "_law_some", "_law_found", "_law_number_here", "_law_k"] vs) H := by
  obtain ⟨c, m, rfl, h0, h1, q⟩ := h
  refine ⟨by show 0 ≤ sizeLine; decide, fun p hp => ⟨by decide, ?_⟩⟩
  refine ⟨m, rfl, by omega, by omega, for_range (lo := 0) (n := m.toNat) (fun i σ H2 => ∃ (num : Int) (kv : Option V) (xs : List Str), σ = [some (.int c), some (.int m), some (.str signS), some (.ref p), some (.int num), kv] ∧ H2 = upd H p (.lst (xs.map V.str)) ∧ xs.length = i ∧ ∀ x ∈ xs, x.length = 1 ∧ ascS x = true)
    ⟨c % 2147483647, none, [], rfl, rfl, rfl, fun x hx => by cases hx⟩ ?_ ?_⟩
  · rintro i σ H2 hi ⟨num, kv, xs, rfl, rfl, hl, hx⟩
    refine ⟨IntMulOk.of_right (by decide), by decide, ?_⟩
    generalize (num * 48271 + (0 + (i : Int)) + 1) % 2147483647 = num2
    refine ⟨.inl ⟨rfl, _, SqL.of upd_same⟩, by decide, ?_⟩
    obtain ⟨cc, hcc, hmem⟩ := atI_ex (xs := signS.cps.toList) (i := num2 % 94) (by omega) (by rw [signS_len]; omega)
    refine .inl (.inr (.inr ⟨signS, _, cc, rfl, rfl, by decide +kernel, hcc, ?_⟩))
    refine ⟨p, _, _, rfl, rfl, upd_same, by rw [List.length_map, hl]; exact small1000 (by omega), ?_⟩
    refine ⟨num2, _, xs ++ [⟨#[cc]⟩], rfl, ?_, by rw [List.length_append, hl]; rfl, fun x hx' => ?_⟩
    · rw [upd_upd, List.map_append]; rfl
    · rcases List.mem_append.mp hx' with z | z
      · exact hx x z
      · rw [List.mem_singleton.mp z]
        refine ⟨rfl, asc_list fun d hd => ?_⟩
        have : d = cc := by simpa using hd
        rw [this]; exact signS_asc cc hmem
  · rintro σ H2 ⟨num, kv, xs, rfl, rfl, hl, hx⟩
    refine ⟨rfl, "", p, xs, rfl, rfl, upd_same, ?_, ?_⟩
    · rw [sum_ones xs hx]
      have : ("" : Str).length = 0 := by decide
      rw [this]; omega
    · rw [txt_join]
      refine q _ _ (Same.upd hp) ?_ (join_asc (by decide +kernel) xs fun x h => (hx x h).2)
      rw [join0_len, sum_ones xs hx]; omega
def wordsA : List Str := ["put", "take", "make", "split", "bend", "seat", "follow", "ask", "span", "meet", "lies"]
def wordsB : List Str := ["", "Put", "puts", "pu", "lie", "asks", "ma ke", "held"]
theorem wordsA_ok : ∀ w ∈ wordsA, w.length ≤ 6 ∧ ascS w = true := by decide +kernel
theorem wordsB_ok : ∀ w ∈ wordsB, w.length ≤ 6 ∧ ascS w = true := by decide +kernel
theorem len__law_word (K : PySem.W.Frag) (A : Adr) : ∀ vs H Q E, sp__law_word K A vs H Q E → vs.length = 1 := by rintro vs H Q E ⟨b, rfl, _⟩; rfl
theorem rd__law_word {K : PySem.W.Frag} {mg : Str → Option Value} {A : Adr} (T : Txt K mg A) (vs : List V) (H : Hp) (Q : VK) (E : XK) (h : sp__law_word K A vs H Q E) : T__law_word K A { nx := fun _ H' => Q .non H', rt := Q } (start ["_law_cell", "_law_some", "_law_odd"] vs) H := by
  obtain ⟨c, rfl, q⟩ := h
  refine ⟨by show 11 ≤ sizeLine; decide, fun p1 h1 => ⟨by show 8 ≤ sizeLine; decide, fun p2 h2 => ⟨by decide, ?_⟩⟩⟩
  have e1 := Same.upd (o := .lst (wordsB.map V.str)) h2 p1 _ (upd_same (o := .lst (wordsA.map V.str)))
  have S : Same H (upd (upd H p1 (.lst (wordsA.map V.str))) p2 (.lst (wordsB.map V.str))) := (Same.upd h1).trans (Same.upd h2)
  refine Sel.dec (fun _ => ?_) (fun _ => ?_)
  · obtain ⟨w, hw, hm⟩ := pick (ws := wordsB) (i := c / 6 % 8) (by omega) (by show c / 6 % 8 < 8; omega)
    have ok := wordsB_ok w hm
    exact ⟨⟨by decide, by decide⟩, by decide, .inl (.inl ⟨p2, wordsB.map V.str, c / 6 % 8, .str w, rfl, rfl, SqL.of upd_same, hw, q w _ S ok.1 ok.2⟩)⟩
  · obtain ⟨w, hw, hm⟩ := pick (ws := wordsA) (i := c / 6 % 11) (by omega) (by show c / 6 % 11 < 11; omega)
    have ok := wordsA_ok w hm
    exact ⟨⟨by decide, by decide⟩, by decide, .inl (.inl ⟨p1, wordsA.map V.str, c / 6 % 11, .str w, rfl, rfl, SqL.of e1, hw, q w _ S ok.1 ok.2⟩)⟩
end Rs
namespace Rs
open PySem PySem.Spec PyProof.Rows L2
theorem small_log {i : Int} (h0 : 0 ≤ i) (h1 : i < 10 ^ 21) : i.natAbs.log2 < 1920 := by
  by_cases e : i.natAbs = 0
  · rw [e]; decide
  · refine (Nat.log2_lt e).mpr ?_
    have : i.natAbs < 10 ^ 21 := by omega
    exact Nat.lt_of_lt_of_le this (by decide +kernel)
theorem digits_len {i : Int} (h0 : 0 ≤ i) (h1 : i < 10 ^ 21) : ((toString i : String) : Str).length ≤ 22 := by
  have : i.natAbs < 10 ^ 21 := by omega
  have := int_text_length_le10 (k := 21) (by decide) this
  show (Str.ofString _).length ≤ _
  rw [PySem.ofString_length]; exact this
theorem p20 : (0 : Int) ≤ 20 ∧ (20 : Int) ≤ 1000000 ∧ (10 : Int).natAbs < 2 ^ 64 := ⟨by decide, by decide, by decide⟩
theorem len__law_number (K : PySem.W.Frag) (A : Adr) : ∀ vs H Q E, sp__law_number K A vs H Q E → vs.length = 1 := by rintro vs H Q E ⟨b, rfl, _⟩; rfl
theorem rd__law_number {K : PySem.W.Frag} {mg : Str → Option Value} {A : Adr} (T : Txt K mg A) (vs : List V) (H : Hp) (Q : VK) (E : XK) (h : sp__law_number K A vs H Q E) : T__law_number K A { nx := fun _ H' => Q .non H', rt := Q } (start ["_law_cell", "_law_number_here", "_law_some"] vs) H := by
  obtain ⟨c, rfl, q⟩ := h
  refine ⟨⟨by decide, by decide⟩, by decide, ?_⟩
  have num : ∀ (H2 : Hp) (j : Int), Same H H2 → 0 < j → j ≤ 10 ^ 20 → ((c / 6 % j).natAbs.log2 < 1920 ∧ Q (.str ((toString (c / 6 % j) : String) : Str)) H2) := fun H2 j s h0 h1 => by
    have a0 : 0 ≤ c / 6 % j := Int.emod_nonneg _ (by omega)
    have a1 : c / 6 % j < j := Int.emod_lt_of_pos _ h0
    have l := digits_len (i := c / 6 % j) a0 (by omega)
    exact ⟨small_log a0 (by omega), q _ _ s (by omega) (asc_int a0)⟩
  refine Sel.dec (fun h5 => ?_) (fun h5 => ?_)
  · refine ⟨p20, p20, by show 5 ≤ sizeLine; decide, fun p hp => ⟨by decide, ?_⟩⟩
    have hc : c % 6 = 0 ∨ c % 6 = 1 ∨ c % 6 = 2 ∨ c % 6 = 3 ∨ c % 6 = 4 := by omega
    rcases hc with hk | hk | hk | hk | hk
    · exact .inl (.inl ⟨p, _, _, .int 10, rfl, rfl, SqL.of upd_same, by rw [hk]; rfl, by decide, num _ _ (Same.upd hp) (by decide) (by decide)⟩)
    · exact .inl (.inl ⟨p, _, _, .int 1000, rfl, rfl, SqL.of upd_same, by rw [hk]; rfl, by decide, num _ _ (Same.upd hp) (by decide) (by decide)⟩)
    · exact .inl (.inl ⟨p, _, _, .int (10 ^ 20), rfl, rfl, SqL.of upd_same, by rw [hk]; rfl, by decide, num _ _ (Same.upd hp) (by decide) (by decide)⟩)
    · exact .inl (.inl ⟨p, _, _, .int (10 ^ 20), rfl, rfl, SqL.of upd_same, by rw [hk]; rfl, by decide, num _ _ (Same.upd hp) (by decide) (by decide)⟩)
    · exact .inl (.inl ⟨p, _, _, .int 1, rfl, rfl, SqL.of upd_same, by rw [hk]; rfl, by decide, num _ _ (Same.upd hp) (by decide) (by decide)⟩)
  · have b0 : (0 : Int) ≤ 10 ^ 20 + c / 6 % 1000 := by omega
    have b1 : (10 : Int) ^ 20 + c / 6 % 1000 < 10 ^ 21 := by omega
    have l : ((toString ((10 : Int) ^ (Int.toNat 20) + c / 6 % 1000) : String) : Str).length ≤ 22 := digits_len b0 b1
    have la : ascS ((toString ((10 : Int) ^ (Int.toNat 20) + c / 6 % 1000) : String) : Str) = true := asc_int b0
    refine ⟨p20, by decide, small_log b0 b1, by show 11 ≤ sizeLine; decide, fun p hp => ⟨by decide, ?_⟩⟩
    generalize ((toString ((10 : Int) ^ (Int.toNat 20) + c / 6 % 1000) : String) : Str) = x at l la
    obtain ⟨w, hw, hm⟩ := pick (ws := ["", "00", "07", "+3", "-1", "1e3", "12a", "a", x, "0x1", "1.0"]) (i := c / 6 % 11) (by omega) (by show c / 6 % 11 < 11; omega)
    have ok : w.length ≤ 30 ∧ ascS w = true := by
      simp only [List.mem_cons, List.not_mem_nil, or_false] at hm
      rcases hm with z | z | z | z | z | z | z | z | z | z | z <;> rw [z] <;> first | (decide +kernel) | exact ⟨by omega, la⟩
    exact .inl (.inl ⟨p, _, _, .str w, rfl, rfl, SqL.of upd_same, hw, q w _ (Same.upd hp) ok.1 ok.2⟩)
theorem slice_to' {z : Str} {n : Nat} (h : n ≤ z.length) : PySem.Txt.slice z none (some (n : Int)) = mkS (z.cps.toList.take n) := by
  rw [slice_to ⟨by omega, by omega⟩]
  unfold subS mkS
  rw [List.drop_zero, Int.toNat_natCast, Nat.sub_zero]
theorem slice_rest {z : Str} {e : Nat} (h : e ≤ z.length) : PySem.Txt.slice z (some (e : Int)) none = mkS (z.cps.toList.drop e) := by
  rw [slice_from ⟨by omega, by omega⟩]
  unfold subS mkS
  rw [Int.toNat_natCast, List.take_of_length_le (by rw [List.length_drop, ← str_len]; omega)]
theorem asc_take {z : Str} (h : ascS z = true) (n : Nat) : ascS (mkS (z.cps.toList.take n)) = true := asc_list fun c hc => list_asc h c (List.mem_of_mem_take hc)
theorem asc_drop {z : Str} (h : ascS z = true) (n : Nat) : ascS (mkS (z.cps.toList.drop n)) = true := asc_list fun c hc => list_asc h c (List.mem_of_mem_drop hc)
theorem len__law_spoiled (K : PySem.W.Frag) (A : Adr) : ∀ vs H Q E, sp__law_spoiled K A vs H Q E → vs.length = 2 := by rintro vs H Q E ⟨_, _, rfl, _⟩; rfl
theorem rd__law_spoiled {K : PySem.W.Frag} {mg : Str → Option Value} {A : Adr} (T : Txt K mg A) (vs : List V) (H : Hp) (Q : VK) (E : XK) (h : sp__law_spoiled K A vs H Q E) : T__law_spoiled K A { nx := fun _ H' => Q .non H', rt := Q } (start ["_law_row", "_law_cell", "_law_at", "_law_blanks"] vs) H := by
  obtain ⟨z, c, rfl, hz, ha, q⟩ := h
  have ml := str_len z
  have sa : ascS ((" " : String) : Str) = true := by decide +kernel
  refine ⟨⟨by decide, by decide⟩, .inl ⟨line_ge (by omega), by show (0 : Int) < (z.length : Int) + 1; omega, ?_⟩⟩
  have m0 : 0 ≤ c / 2 % ((z.length : Int) + 1) := Int.emod_nonneg _ (by omega)
  have m1 : c / 2 % ((z.length : Int) + 1) < (z.length : Int) + 1 := Int.emod_lt_of_pos _ (by omega)
  generalize c / 2 % ((z.length : Int) + 1) = at_ at m0 m1
  obtain ⟨n, rfl⟩ := Int.eq_ofNat_of_zero_le m0
  have hn : n ≤ z.length := by omega
  refine ⟨by decide, Sel.dec (fun _ => ?_) (fun _ => ?_)⟩
  · refine ⟨_, rfl, .inr ⟨z, rfl, line_ge (by omega), ?_⟩⟩
    rw [slice_to' hn]
    have l1 : (mkS (z.cps.toList.take n)).length = n := by rw [mk_len, List.length_take]; omega
    refine ⟨by rw [sp_len]; exact line_ge (by omega), _, rfl, .inr ⟨z, rfl, line_ge (by omega), ?_⟩⟩
    rw [slice_rest hn]
    have l2 : (mkS (z.cps.toList.drop n)).length = z.length - n := by rw [mk_len, List.length_drop]; omega
    refine ⟨by rw [strLen_append, sp_len]; exact line_ge (by omega), q _ _ (.refl H) ?_ (asc_app (asc_app (asc_take ha n) sa) (asc_drop ha n))⟩
    rw [strLen_append, strLen_append, sp_len]; omega
  · refine .inl ⟨line_ge (by omega), (z.length : Int), rfl, by omega, by omega, fun D hD => ?_⟩
    rw [show ((z.length : Nat) : Int).toNat = z.length from Int.toNat_natCast _]
    refine comp_by (Items.range (lo := 0)) (fun i ys H2 => ∃ ks : List Nat, ys = (ks.map fun k => ((k : Nat) : Int)).map V.int ∧ (∀ k ∈ ks, k < z.length) ∧ ks.length ≤ i ∧ H2 = upd H D (.lst ys)) (fun _ _ _ _ _ => trivial) ⟨[], rfl, (fun k hk => by cases hk), Nat.le_refl _, rfl⟩ ?_ ?_
    · rintro i ys H2 hi ⟨ks, rfl, hks, hl, rfl⟩
      have hi2 : i < z.cps.toList.length := by omega
      have ei : (0 : Int) + (i : Int) = (i : Int) := by omega
      refine .inl (.inr (.inr ⟨z, _, z.cps.toList[i], rfl, rfl, line_ge (by omega), by rw [ei]; exact atI_nat (List.getElem?_eq_getElem hi2), ?_⟩))
      show (if decide ((⟨#[z.cps.toList[i]]⟩ : Str) = ((" " : String) : Str)) = true then _ else _)
      by_cases e : (⟨#[z.cps.toList[i]]⟩ : Str) = ((" " : String) : Str)
      · rw [if_pos (decide_eq_true e)]
        refine ⟨upd_same, ?_, CWd.next hi ⟨ks ++ [i], ?_, fun k hk => ?_, by rw [List.length_append]; show _ + 1 ≤ _; omega, upd_upd⟩⟩
        · rw [List.length_map, List.length_map]
          exact small1000 (by omega)
        · rw [List.map_append, List.map_append, ei]; rfl
        · rcases List.mem_append.mp hk with y | y
          · exact hks k y
          · rw [List.mem_singleton.mp y]; exact hi
      · rw [if_neg (by rw [decide_eq_false e]; decide)]
        exact CWd.next hi ⟨ks, rfl, hks, by omega, rfl⟩
    · rintro ys H2 ⟨ks, rfl, hks, hl, rfl⟩
      refine ⟨by show 0 ≤ sizeLine; decide, fun F hF => .inr (.inl ?_)⟩
      have hDF : D ≠ F := ne_of_none upd_same hF
      have gD : (upd (upd H D (.lst ((ks.map fun k => ((k : Nat) : Int)).map V.int))) F (.lst [])) D = some (.lst ((ks.map fun k => ((k : Nat) : Int)).map V.int)) := by rw [upd_ne hDF]; exact upd_same
      have S : Same H (upd (upd H D (.lst ((ks.map fun k => ((k : Nat) : Int)).map V.int))) F (.lst [])) := (Same.upd hD).trans (Same.upd hF)
      refine ⟨.list ((ks.map fun k => ((k : Nat) : Int)).map PyData.int), .list [], .lst (SqL.of gD) (dats_ints K _ _), .lst (SqL.of upd_same) .nil, lay_ints _, rfl, by show PyData.depthAll _ + 1 ≤ 150; rw [depth_ints]; decide, ?_⟩
      cases ks with
      | nil =>
        refine Sel.yes rfl ⟨by rw [sp_len]; exact line_ge (by omega), q _ _ S ?_ (asc_app ha sa)⟩
        rw [strLen_append, sp_len]; omega
      | cons k0 kr =>
        refine Sel.no rfl ⟨⟨by decide, by decide⟩, .inl (.inl ⟨_, SqL.of gD, ?_⟩)⟩
        have lk : (((k0 :: kr).map fun k => ((k : Nat) : Int)).map V.int).length = kr.length + 1 := by rw [List.length_map, List.length_map, List.length_cons]
        rw [lk]
        refine ⟨by show (0 : Int) < ((kr.length + 1 : Nat) : Int); omega, ?_⟩
        obtain ⟨v, hv, hmem⟩ := atI_ex (xs := ((k0 :: kr).map fun k => ((k : Nat) : Int)).map V.int) (i := c / 2 % ((kr.length + 1 : Nat) : Int)) (Int.emod_nonneg _ (by omega)) (by rw [lk]; exact Int.emod_lt_of_pos _ (by omega))
        obtain ⟨j, hj, ej⟩ := List.mem_map.mp hmem
        obtain ⟨k, hk, ek⟩ := List.mem_map.mp hj
        subst ek
        subst ej
        have hkz := hks k hk
        refine .inl (.inl ⟨D, _, _, .int (k : Int), rfl, rfl, SqL.of gD, hv, ?_⟩)
        refine ⟨_, rfl, .inr ⟨z, rfl, line_ge (by omega), ?_⟩⟩
        rw [slice_to' (by omega)]
        have l1 : (mkS (z.cps.toList.take k)).length = k := by rw [mk_len, List.length_take]; omega
        refine ⟨_, rfl, .inr ⟨z, rfl, line_ge (by omega), ?_⟩⟩
        have e1 : ((k : Nat) : Int) + 1 = ((k + 1 : Nat) : Int) := by omega
        rw [e1, slice_rest (by omega)]
        have l2 : (mkS (z.cps.toList.drop (k + 1))).length = z.length - (k + 1) := by rw [mk_len, List.length_drop]; omega
        refine ⟨line_ge (by omega), q _ _ S ?_ (asc_app (asc_take ha k) (asc_drop ha (k + 1)))⟩
        rw [strLen_append]; omega
end Rs
namespace Rs
open PySem PySem.Spec PyProof.Rows L2
theorem RowAt.same {H H' : Hp} {p : Addr} {x : Str × List Int × Str} (s : Same H H') (h : RowAt H p x) : RowAt H' p x := let ⟨r, h1, h2⟩ := h; ⟨r, s _ _ h1, s _ _ h2⟩
theorem due_facts {z : Str} {x : Str × List Int × Str} (ha : ascS z = true) (h : rowDue z = some x) : x.2.1.length ≤ 10000 ∧ ascS x.1 = true ∧ ascS x.2.2 = true := by
  obtain ⟨r, eW⟩ := W_head z
  generalize (PySem.Txt.partition z ((" " : String) : Str)).1 = w at eW
  have aw : ∀ y ∈ w :: r, ascS y = true := fun y hy => W_asc ha (by rw [eW]; exact hy)
  unfold rowDue at h
  rw [eW] at h
  cases hm : wantD w with
  | none => rw [due_no hm] at h; cases h
  | some m =>
    obtain ⟨m0, m4⟩ := want_le hm
    obtain ⟨k, rfl⟩ := Int.eq_ofNat_of_zero_le m0
    rw [due_if hm] at h
    by_cases h1 : r.length < k + (if endsW w = true then 1 else 0) ∨ (endsW w = false ∧ k < r.length)
    · rw [if_pos h1] at h; cases h
    · rw [if_neg h1] at h
      by_cases h2 : (r.take k).all okFig = true
      · rw [if_pos h2] at h
        have e := Option.some.inj h
        rw [← e]
        refine ⟨?_, aw w List.mem_cons_self, ?_⟩
        · rw [List.length_map, List.length_take]; omega
        · rw [txt_join]
          exact join_asc (by decide +kernel) _ fun y hy => aw y (List.mem_cons_of_mem _ (List.mem_of_mem_drop hy))
      · rw [if_neg h2] at h; cases h
theorem want_get (w : Str) : (wantD w).getD (-1) ≤ 4 := by
  cases hm : wantD w with
  | none => decide
  | some m => exact (want_le hm).2
theorem sum_le {n : Nat} : ∀ {xs : List Str}, (∀ x ∈ xs, x.length ≤ n ∧ ascS x = true) → (xs.map (·.length)).sum ≤ xs.length * n
  | [], _ => by simp
  | x :: r, h => by
    rw [List.map_cons, List.sum_cons, List.length_cons, Nat.succ_mul]
    have := (h x List.mem_cons_self).1
    have := sum_le (xs := r) fun y hy => h y (List.mem_cons_of_mem _ hy)
    omega
theorem len_law (K : PySem.W.Frag) (A : Adr) : ∀ vs H Q E, sp_law K A vs H Q E → vs.length = 1 := by rintro vs H Q E ⟨b, _, rfl, _⟩; rfl
section
variable {K : PySem.W.Frag} {mg : Str → Option Value} {A : Adr} {H : Hp} {Q : VK} {a : Addr} {ns : List Int}
theorem law9 (T : Txt K mg A) (q : ∀ H', Q (.bl true) H') (z : Str) (H2 : Hp) (v1 v2 v3 v4 v5 v6 : Option V) (lz : z.length ≤ 1100) (az : ascS z = true) :
    R_law_9 K A { nx := fun _ H' => Q .non H', rt := Q } [some (.ref a), v1, v2, v3, v4, v5, v6, some (.str z), none] H2 := by
  refine ⟨z, rfl, by omega, az, fun x hx p H3 s3 rp => ?_, fun hn H3 s3 => ?_⟩
  · refine Sel.f ⟨.str z, rfl, .inr ⟨z, rfl, by omega, az, fun y hy p2 H4 s4 rp2 => ?_, fun hn => by rw [hx] at hn; cases hn⟩⟩
    have e : y = x := Option.some.inj (hy.symm.trans hx)
    subst e
    obtain ⟨f1, f2, f3⟩ := due_facts az hx
    exact ⟨p2, p, y, rfl, rp2, rp.same s4, f1, f2, f3, fun H5 s5 => q _⟩
  · exact Sel.t ⟨.str z, rfl, .inr ⟨z, rfl, by omega, az, hn⟩, fun H4 s4 => q _⟩
theorem law8 (T : Txt K mg A) (q : ∀ H', Q (.bl true) H') (z : Str) (m : Int) (H2 : Hp) (v1 v2 v4 v5 v6 : Option V) (lz : z.length ≤ 1100) (az : ascS z = true) :
    R_law_8 K A { nx := fun _ H' => Q .non H', rt := Q } [some (.ref a), v1, v2, some (.int m), v4, v5, v6, some (.str z), none] H2 := by
  refine ⟨⟨by decide, by decide⟩, by decide, Sel.dec (fun _ => ?_) (fun _ => law9 T q z H2 v1 v2 _ v4 v5 v6 lz az)⟩
  refine ⟨by show 1 ≤ sizeLine; decide, fun p1 h1 => ⟨by show 0 ≤ sizeLine; decide, fun p2 h2 => ⟨by show 2 ≤ sizeLine; decide, fun p3 h3 => .inl fun p4 h4 => ⟨by show 6 ≤ sizeLine; decide, fun p hp => ⟨⟨by decide, by decide⟩, by decide, ?_⟩⟩⟩⟩⟩
  have e4 := Same.upd (o := .lst [V.non, V.int 3, V.bl true, V.ref p1, V.ref p3, V.ref p4]) hp p4 _ (upd_same (o := .dK []))
  have e3 := Same.upd (o := .lst [V.non, V.int 3, V.bl true, V.ref p1, V.ref p3, V.ref p4]) hp p3 _ (Same.upd (o := .dK []) h4 p3 _ (upd_same (o := .tup [V.str z, V.ref p2])))
  have e1 := Same.upd (o := .lst [V.non, V.int 3, V.bl true, V.ref p1, V.ref p3, V.ref p4]) hp p1 _ (Same.upd (o := .dK []) h4 p1 _ (Same.upd (o := .tup [V.str z, V.ref p2]) h3 p1 _ (Same.upd (o := .lst []) h2 p1 _ (upd_same (o := .lst [V.str z])))))
  have hc : m / 4800 % 6 = 0 ∨ m / 4800 % 6 = 1 ∨ m / 4800 % 6 = 2 ∨ m / 4800 % 6 = 3 ∨ m / 4800 % 6 = 4 ∨ m / 4800 % 6 = 5 := by omega
  rcases hc with hk | hk | hk | hk | hk | hk
  · exact .inl (.inl ⟨p, _, _, .non, rfl, rfl, SqL.of upd_same, by rw [hk]; rfl, .non, rfl, .inl ⟨"NoneType", rfl, by decide⟩, fun H4 s4 => q _⟩)
  · exact .inl (.inl ⟨p, _, _, .int 3, rfl, rfl, SqL.of upd_same, by rw [hk]; rfl, .int 3, rfl, .inl ⟨"int", rfl, by decide⟩, fun H4 s4 => q _⟩)
  · exact .inl (.inl ⟨p, _, _, .bl true, rfl, rfl, SqL.of upd_same, by rw [hk]; rfl, .bl true, rfl, .inl ⟨"bool", rfl, by decide⟩, fun H4 s4 => q _⟩)
  · exact .inl (.inl ⟨p, _, _, .ref p1, rfl, rfl, SqL.of upd_same, by rw [hk]; rfl, .ref p1, rfl, .inl ⟨"list", by unfold tyN; dsimp only; rw [e1], by decide⟩, fun H4 s4 => q _⟩)
  · exact .inl (.inl ⟨p, _, _, .ref p3, rfl, rfl, SqL.of upd_same, by rw [hk]; rfl, .ref p3, rfl, .inl ⟨"tuple", by unfold tyN; dsimp only; rw [e3], by decide⟩, fun H4 s4 => q _⟩)
  · exact .inl (.inl ⟨p, _, _, .ref p4, rfl, rfl, SqL.of upd_same, by rw [hk]; rfl, .ref p4, rfl, .inl ⟨"dict", by unfold tyN; dsimp only; rw [e4], by decide⟩, fun H4 s4 => q _⟩)
theorem law6 (T : Txt K mg A) (q : ∀ H', Q (.bl true) H') (D : Addr) (ws : List Str) (m : Int) (H2 : Hp) (hS : SqL K H a (ns.map V.int)) (s2 : Same H H2) (v1 v2 v5 v6 : Option V) (h2 : H2 D = some (.lst (ws.map V.str))) (hl : ws.length ≤ 7) (hw : ∀ x ∈ ws, x.length ≤ 100 ∧ ascS x = true) :
    R_law_6 K A { nx := fun _ H' => Q .non H', rt := Q } [some (.ref a), v1, v2, some (.int m), some (.ref D), v5, v6, none, none] H2 := by
  have hs := sum_le hw
  have hs2 : ws.length * 100 ≤ 7 * 100 := Nat.mul_le_mul_right _ hl
  refine ⟨rfl, _, D, ws, rfl, rfl, h2, by rw [sp_len]; omega, ?_⟩
  rw [txt_join]
  have lj : (Str.join ((" " : String) : Str) ws).length ≤ 707 := by
    have := StrLaws.join_length_le ((" " : String) : Str) ws
    rw [sp_len] at this; omega
  have aj : ascS (Str.join ((" " : String) : Str) ws) = true := join_asc (by decide +kernel) ws fun x hx => (hw x hx).2
  generalize Str.join ((" " : String) : Str) ws = z at lj aj
  refine ⟨⟨by decide, by decide⟩, by decide, Sel.dec (fun _ => ?_) (fun _ => law8 T q z m H2 v1 v2 _ v5 v6 (by omega) aj)⟩
  exact ⟨a, ns, 9, rfl, s2.seq hS, by decide, fun c => ⟨z, c, rfl, by omega, aj, fun y H3 s3 ly ay => law8 T q y m H3 v1 v2 _ v5 v6 (by omega) ay⟩⟩
theorem law5 (T : Txt K mg A) (q : ∀ H', Q (.bl true) H') (D : Addr) (w : Str) (ws : List Str) (m : Int) (H2 : Hp) (hS : SqL K H a (ns.map V.int)) (s2 : Same H H2) (hD : H D = none) (v2 : Option V) (h2 : H2 D = some (.lst (ws.map V.str))) (hl : ws.length ≤ 6) (hw : ∀ x ∈ ws, x.length ≤ 100 ∧ ascS x = true) :
    R_law_5 K A { nx := fun _ H' => Q .non H', rt := Q } [some (.ref a), some (.str w), v2, some (.int m), some (.ref D), none, none, none, none] H2 := by
  have next := law6 T q D ws m H2 hS s2 (some (.str w)) v2 none none h2 (by omega) hw
  refine Sel.dec (fun _ => Sel.t ?_) (fun _ => Sel.dec (fun _ => ?_) (fun _ => Sel.f next))
  all_goals
    refine ⟨⟨by decide, by decide⟩, by decide, Sel.dec (fun _ => ?_) (fun _ => next)⟩
    refine ⟨a, ns, 2, rfl, s2.seq hS, by decide, fun c => ⟨by decide, c, c % 79, rfl, by omega, by omega, fun t H3 s3 lt at_ => ?_⟩⟩
    have lt : t.length ≤ 79 := by omega
    have sp2 : (("  " : String) : Str).length = 2 := by decide +kernel
    have hD3 := s3 _ _ h2
    have sa : ascS ((" " : String) : Str) = true := by decide +kernel
    have sb : ascS (("  " : String) : Str) = true := by decide +kernel
    refine ⟨.inl ⟨rfl, _, SqL.of hD3⟩, by rw [sp_len]; exact line_ge (by omega), by rw [sp_len]; exact line_ge (by omega), by rw [sp_len]; exact line_ge (by omega), by rw [strLen_append, sp_len, sp2]; exact line_ge (by omega), by show 4 ≤ sizeLine; decide, fun p hp => ⟨⟨by decide, by decide⟩, by decide, ?_⟩⟩
    obtain ⟨x, hx, hm⟩ := pick (ws := [t, ((" " : String) : Str) ++ t, t ++ ((" " : String) : Str), ((" " : String) : Str) ++ t ++ (("  " : String) : Str)]) (i := c / 79 % 4) (by omega) (by show c / 79 % 4 < 4; omega)
    have ok : x.length ≤ 100 ∧ ascS x = true := by
      simp only [List.mem_cons, List.not_mem_nil, or_false] at hm
      rcases hm with y | y | y | y <;> rw [y]
      · exact ⟨by omega, at_⟩
      · exact ⟨by rw [strLen_append, sp_len]; omega, asc_app sa at_⟩
      · exact ⟨by rw [strLen_append, sp_len]; omega, asc_app at_ sa⟩
      · exact ⟨by rw [strLen_append, strLen_append, sp_len, sp2]; omega, asc_app (asc_app sa at_) sb⟩
    have hDp : D ≠ p := ne_of_none hD3 hp
    refine .inl (.inl ⟨p, _, _, .str x, rfl, rfl, SqL.of upd_same, hx, D, _, _, rfl, rfl, by rw [upd_ne hDp]; exact hD3, by rw [List.length_map]; exact small1000 (by omega), ?_⟩)
    have e : ws.map V.str ++ [V.str x] = (ws ++ [x]).map V.str := by rw [List.map_append]; rfl
    rw [e]
    refine law6 T q D (ws ++ [x]) m _ hS (((s2.trans s3).trans (Same.upd hp)).put hD) _ _ _ _ upd_same (by rw [List.length_append]; show _ + 1 ≤ 7; omega) fun y hy => ?_
    rcases List.mem_append.mp hy with y' | y'
    · exact hw y y'
    · rw [List.mem_singleton.mp y']; exact ok
theorem law4 (T : Txt K mg A) (q : ∀ H', Q (.bl true) H') (w : Str) (mm m : Int) (H2 : Hp) (hS : SqL K H a (ns.map V.int)) (s2 : Same H H2) (h0 : 0 ≤ mm) (h5 : mm ≤ 5) (lw : w.length ≤ 6) (aw : ascS w = true) :
    R_law_4 K A { nx := fun _ H' => Q .non H', rt := Q } [some (.ref a), some (.str w), some (.int mm), some (.int m), none, none, none, none, none] H2 := by
  refine ⟨by show 1 ≤ sizeLine; decide, fun p hp => ⟨mm, rfl, by omega, by omega, fun D hD => ?_⟩⟩
  have s3 : Same H (upd H2 p (.lst [V.str w])) := s2.trans (Same.upd hp)
  have hpD : p ≠ D := ne_of_none upd_same hD
  refine comp_by (Items.range (lo := 0)) (fun i ys H5 => ∃ zs : List Str, ys = zs.map V.str ∧ H5 D = some (.lst ys) ∧ Same (upd H2 p (.lst [V.str w])) H5 ∧ zs.length = i ∧ ∀ x ∈ zs, x.length ≤ 100 ∧ ascS x = true) (fun _ _ _ _ _ => trivial)
    ⟨[], rfl, upd_same, Same.upd hD, rfl, fun x hx => by cases hx⟩ ?_ ?_
  · rintro i ys H5 hi ⟨zs, rfl, hd5, s5, hl, hz⟩
    refine iteT ⟨a, ns, 3 + (0 + (i : Int)), rfl, (s3.trans s5).seq hS, by omega, fun c => ⟨c, rfl, fun v H6 s6 lv av => ?_⟩⟩
    refine ⟨s6 _ _ hd5, by rw [List.length_map, hl]; exact small1000 (by omega), CWd.next hi ⟨zs ++ [v], by rw [List.map_append]; rfl, upd_same, (s5.trans s6).put hD, by rw [List.length_append, hl]; rfl, fun x hx => ?_⟩⟩
    rcases List.mem_append.mp hx with hx | hx
    · exact hz x hx
    · rw [List.mem_singleton.mp hx]; exact ⟨by omega, av⟩
  · rintro ys H5 ⟨zs, rfl, hd5, s5, hl, hz⟩
    have hp5 := s5 _ _ (upd_same (o := .lst [V.str w]))
    refine .inl ⟨p, D, _, _, rfl, rfl, hp5, hd5, by rw [List.length_map, hl]; exact line_ge (by show 1 + mm.toNat ≤ 1000000; omega), fun p2 hp2 => ?_⟩
    have S5 : Same H H5 := s3.trans s5
    have hp2n : H p2 = none := by
      cases e : H p2 with
      | none => rfl
      | some o => rw [S5 _ _ e] at hp2; cases hp2
    refine law5 T q p2 w (w :: zs) m _ hS (S5.trans (Same.upd hp2)) hp2n _ upd_same (by rw [List.length_cons]; omega) fun x hx => ?_
    rcases List.mem_cons.mp hx with y | y
    · rw [y]; exact ⟨by omega, aw⟩
    · exact hz x y
theorem law2 (T : Txt K mg A) (q : ∀ H', Q (.bl true) H') (w : Str) (mm : Int) (H2 : Hp) (hS : SqL K H a (ns.map V.int)) (s2 : Same H H2) (h0 : 0 ≤ mm) (h4 : mm ≤ 4) (lw : w.length ≤ 6) (aw : ascS w = true) :
    R_law_2 K A { nx := fun _ H' => Q .non H', rt := Q } [some (.ref a), some (.str w), some (.int mm), none, none, none, none, none, none] H2 := by
  refine ⟨a, ns, 1, rfl, s2.seq hS, by decide, fun m => ⟨by decide, Sel.dec (fun _ => ?_) (fun _ => law4 T q w mm m H2 hS s2 h0 (by omega) lw aw)⟩⟩
  refine ⟨by show 2 ≤ sizeLine; decide, fun p hp => ⟨⟨by decide, by decide⟩, by decide, ?_⟩⟩
  have hc : m / 5 % 2 = 0 ∨ m / 5 % 2 = 1 := by omega
  rcases hc with hk | hk
  · exact .inl (.inl ⟨p, _, _, .int 1, rfl, rfl, SqL.of upd_same, by rw [hk]; rfl, law4 T q w (if mm + 1 > 0 then mm + 1 else 0) m _ hS (s2.trans (Same.upd hp)) (by split <;> omega) (by split <;> omega) lw aw⟩)
  · exact .inl (.inl ⟨p, _, _, .int (-1), rfl, rfl, SqL.of upd_same, by rw [hk]; rfl, law4 T q w (if mm + -1 > 0 then mm + -1 else 0) m _ hS (s2.trans (Same.upd hp)) (by split <;> omega) (by split <;> omega) lw aw⟩)
end
theorem rd_law {K : PySem.W.Frag} {mg : Str → Option Value} {A : Adr} (T : Txt K mg A) (vs : List V) (H : Hp) (Q : VK) (E : XK) (h : sp_law K A vs H Q E) : T_law K A { nx := fun _ H' => Q .non H', rt := Q } (start ["_law_script", "_law_word_here", "_law_many", "_law_more", "_law_words", "_law_cell", "_law_text", "_law_row", "_law_due_here"] vs) H := by
  obtain ⟨a, ns, rfl, hS, hlen, _, q⟩ := h
  refine ⟨a, ns, 0, rfl, hS, by decide, fun c => ⟨c, rfl, fun w H1 s1 lw aw => ⟨w, rfl, fun H2 s2 => ?_⟩⟩⟩
  have hg := want_get w
  exact law2 T q w (if (wantD w).getD (-1) > 0 then (wantD w).getD (-1) else 0) H2 hS (s1.trans s2) (by split <;> omega) (by split <;> omega) lw aw
end Rs
namespace Rs
open PySem PySem.Spec PyProof.Rows L2
theorem ok__law_word {P : Program} {w : World} {K : PySem.W.Frag} {mg : Str → Option Value} {base : Heap} {A : Adr} (T : Txt K mg A)  : FnOk P w K mg base (CX1 P w) 1 A.a__law_word A.d__law_word ["_law_cell"] (sp__law_word K A) :=
  T.f__law_word.okNQ sc__law_word (len__law_word K A) (T__law_word K A) (fun cdv Ar outer s H E hr => qm__law_word T  cdv Ar outer s H E hr) (fun H vs Q E h => rd__law_word T vs H Q E h)
theorem ok__law_cell_at {P : Program} {w : World} {K : PySem.W.Frag} {mg : Str → Option Value} {base : Heap} {A : Adr} (T : Txt K mg A)  : FnOk P w K mg base (CX1 P w) 1 A.a__law_cell_at A.d__law_cell_at ["_law_script", "_law_k"] (sp__law_cell_at K A) :=
  T.f__law_cell_at.okN sc__law_cell_at (len__law_cell_at K A) (fun cdv Ar outer s H vs Q E hr h => ⟨_, tm__law_cell_at T  cdv Ar outer s H E hr, rd__law_cell_at T vs H Q E h⟩)
theorem ok__law_wanted {P : Program} {w : World} {K : PySem.W.Frag} {mg : Str → Option Value} {base : Heap} {A : Adr} (T : Txt K mg A)  : FnOk P w K mg base (CX1 P w) 1 A.a__law_wanted A.d__law_wanted ["_law_word_here"] (sp__law_wanted K A) :=
  T.f__law_wanted.okNQ sc__law_wanted (len__law_wanted K A) (T__law_wanted K A) (fun cdv Ar outer s H E hr => qm__law_wanted T  cdv Ar outer s H E hr) (fun H vs Q E h => rd__law_wanted T vs H Q E h)
theorem ok__law_number {P : Program} {w : World} {K : PySem.W.Frag} {mg : Str → Option Value} {base : Heap} {A : Adr} (T : Txt K mg A)  : FnOk P w K mg base (CX1 P w) 1 A.a__law_number A.d__law_number ["_law_cell"] (sp__law_number K A) :=
  T.f__law_number.okN sc__law_number (len__law_number K A) (fun cdv Ar outer s H vs Q E hr h => ⟨_, tm__law_number T  cdv Ar outer s H E hr, rd__law_number T vs H Q E h⟩)
theorem ok__law_signs {P : Program} {w : World} {K : PySem.W.Frag} {mg : Str → Option Value} {base : Heap} {A : Adr} (T : Txt K mg A)  : FnOk P w K mg base (CX1 P w) 1 A.a__law_signs A.d__law_signs ["_law_cell", "_law_many"] (sp__law_signs K A) :=
  T.f__law_signs.okN sc__law_signs (len__law_signs K A) (fun cdv Ar outer s H vs Q E hr h => ⟨_, tm__law_signs T  cdv Ar outer s H E hr, rd__law_signs T vs H Q E h⟩)
theorem ok__law_spoiled {P : Program} {w : World} {K : PySem.W.Frag} {mg : Str → Option Value} {base : Heap} {A : Adr} (T : Txt K mg A)  : FnOk P w K mg base (CX1 P w) 1 A.a__law_spoiled A.d__law_spoiled ["_law_row", "_law_cell"] (sp__law_spoiled K A) :=
  T.f__law_spoiled.okN sc__law_spoiled (len__law_spoiled K A) (fun cdv Ar outer s H vs Q E hr h => ⟨_, tm__law_spoiled T  cdv Ar outer s H E hr, rd__law_spoiled T vs H Q E h⟩)
theorem ok_figures_end {P : Program} {w : World} {K : PySem.W.Frag} {mg : Str → Option Value} {base : Heap} {A : Adr} (T : Txt K mg A)  : FnOk P w K mg base (CX1 P w) 1 A.a_figures_end A.d_figures_end ["text", "begin"] (sp_figures_end K A) :=
  T.f_figures_end.okN sc_figures_end (len_figures_end K A) (fun cdv Ar outer s H vs Q E hr h => ⟨_, tm_figures_end T  cdv Ar outer s H E hr, rd_figures_end T vs H Q E h⟩)
theorem ok_is_number {P : Program} {w : World} {K : PySem.W.Frag} {mg : Str → Option Value} {base : Heap} {A : Adr} (T : Txt K mg A) (G_figures_end : FnOk P w K mg base (CX1 P w) 1 A.a_figures_end A.d_figures_end ["text", "begin"] (sp_figures_end K A)) : FnOk P w K mg base (CX1 P w) 2 A.a_is_number A.d_is_number ["text", "most"] (sp_is_number K A) :=
  T.f_is_number.okN sc_is_number (len_is_number K A) (fun cdv Ar outer s H vs Q E hr h => ⟨_, tm_is_number T G_figures_end cdv Ar outer s H E hr, rd_is_number T vs H Q E h⟩)
theorem ok_number_read {P : Program} {w : World} {K : PySem.W.Frag} {mg : Str → Option Value} {base : Heap} {A : Adr} (T : Txt K mg A) (G_is_number : FnOk P w K mg base (CX1 P w) 2 A.a_is_number A.d_is_number ["text", "most"] (sp_is_number K A)) : FnOk P w K mg base (CX1 P w) 3 A.a_number_read A.d_number_read ["figures"] (sp_number_read K A) :=
  T.f_number_read.okX sc_number_read (len_number_read K A) (fun cdv Ar outer s H vs Q E hr h => ⟨_, tm_number_read T G_is_number cdv Ar outer s H E hr, rd_number_read T vs H Q E h⟩)
theorem ok_numbers_read {P : Program} {w : World} {K : PySem.W.Frag} {mg : Str → Option Value} {base : Heap} {A : Adr} (T : Txt K mg A) (G_number_read : FnOk P w K mg base (CX1 P w) 3 A.a_number_read A.d_number_read ["figures"] (sp_number_read K A)) : FnOk P w K mg base (CX1 P w) 4 A.a_numbers_read A.d_numbers_read ["many", "parts"] (sp_numbers_read K A) :=
  T.f_numbers_read.okX sc_numbers_read (len_numbers_read K A) (fun cdv Ar outer s H vs Q E hr h => ⟨_, tm_numbers_read T G_number_read cdv Ar outer s H E hr, rd_numbers_read T vs H Q E h⟩)
theorem ok_row_read {P : Program} {w : World} {K : PySem.W.Frag} {mg : Str → Option Value} {base : Heap} {A : Adr} (T : Txt K mg A) (G_numbers_read : FnOk P w K mg base (CX1 P w) 4 A.a_numbers_read A.d_numbers_read ["many", "parts"] (sp_numbers_read K A)) : FnOk P w K mg base (CX1 P w) 5 A.a_row_read A.d_row_read ["row"] (sp_row_read K A) :=
  T.f_row_read.okX sc_row_read (len_row_read K A) (fun cdv Ar outer s H vs Q E hr h => ⟨_, tm_row_read T G_numbers_read cdv Ar outer s H E hr, rd_row_read T vs H Q E h⟩)
theorem ok__law_refused {P : Program} {w : World} {K : PySem.W.Frag} {mg : Str → Option Value} {base : Heap} {A : Adr} (T : Txt K mg A) (G_row_read : FnOk P w K mg base (CX1 P w) 5 A.a_row_read A.d_row_read ["row"] (sp_row_read K A)) : FnOk P w K mg base (CX1 P w) 6 A.a__law_refused A.d__law_refused ["_law_thing"] (sp__law_refused K A) :=
  T.f__law_refused.okN sc__law_refused (len__law_refused K A) (fun cdv Ar outer s H vs Q E hr h => ⟨_, tm__law_refused T G_row_read cdv Ar outer s H E hr, rd__law_refused T vs H Q E h⟩)
theorem ok__law_figures {P : Program} {w : World} {K : PySem.W.Frag} {mg : Str → Option Value} {base : Heap} {A : Adr} (T : Txt K mg A)  : FnOk P w K mg base (CX1 P w) 1 A.a__law_figures A.d__law_figures ["_law_word_here"] (sp__law_figures K A) :=
  T.f__law_figures.okN sc__law_figures (len__law_figures K A) (fun cdv Ar outer s H vs Q E hr h => ⟨_, tm__law_figures T  cdv Ar outer s H E hr, rd__law_figures T vs H Q E h⟩)
theorem ok__law_due {P : Program} {w : World} {K : PySem.W.Frag} {mg : Str → Option Value} {base : Heap} {A : Adr} (T : Txt K mg A) (G__law_wanted : FnOk P w K mg base (CX1 P w) 1 A.a__law_wanted A.d__law_wanted ["_law_word_here"] (sp__law_wanted K A)) (G__law_figures : FnOk P w K mg base (CX1 P w) 1 A.a__law_figures A.d__law_figures ["_law_word_here"] (sp__law_figures K A)) : FnOk P w K mg base (CX1 P w) 2 A.a__law_due A.d__law_due ["_law_row"] (sp__law_due K A) :=
  T.f__law_due.okN sc__law_due (len__law_due K A) (fun cdv Ar outer s H vs Q E hr h => ⟨_, tm__law_due T G__law_wanted G__law_figures cdv Ar outer s H E hr, rd__law_due T vs H Q E h⟩)
theorem ok__law_alike {P : Program} {w : World} {K : PySem.W.Frag} {mg : Str → Option Value} {base : Heap} {A : Adr} (T : Txt K mg A)  : FnOk P w K mg base (CX1 P w) 1 A.a__law_alike A.d__law_alike ["_law_found", "_law_due_here"] (sp__law_alike K A) :=
  T.f__law_alike.okN sc__law_alike (len__law_alike K A) (fun cdv Ar outer s H vs Q E hr h => ⟨_, tm__law_alike T  cdv Ar outer s H E hr, rd__law_alike T vs H Q E h⟩)
theorem ok_law {P : Program} {w : World} {K : PySem.W.Frag} {mg : Str → Option Value} {base : Heap} {A : Adr} (T : Txt K mg A) (G__law_word : FnOk P w K mg base (CX1 P w) 1 A.a__law_word A.d__law_word ["_law_cell"] (sp__law_word K A)) (G__law_cell_at : FnOk P w K mg base (CX1 P w) 1 A.a__law_cell_at A.d__law_cell_at ["_law_script", "_law_k"] (sp__law_cell_at K A)) (G__law_wanted : FnOk P w K mg base (CX1 P w) 1 A.a__law_wanted A.d__law_wanted ["_law_word_here"] (sp__law_wanted K A)) (G__law_number : FnOk P w K mg base (CX1 P w) 1 A.a__law_number A.d__law_number ["_law_cell"] (sp__law_number K A)) (G__law_signs : FnOk P w K mg base (CX1 P w) 1 A.a__law_signs A.d__law_signs ["_law_cell", "_law_many"] (sp__law_signs K A)) (G__law_spoiled : FnOk P w K mg base (CX1 P w) 1 A.a__law_spoiled A.d__law_spoiled ["_law_row", "_law_cell"] (sp__law_spoiled K A)) (G__law_refused : FnOk P w K mg base (CX1 P w) 6 A.a__law_refused A.d__law_refused ["_law_thing"] (sp__law_refused K A)) (G__law_due : FnOk P w K mg base (CX1 P w) 2 A.a__law_due A.d__law_due ["_law_row"] (sp__law_due K A)) (G__law_alike : FnOk P w K mg base (CX1 P w) 1 A.a__law_alike A.d__law_alike ["_law_found", "_law_due_here"] (sp__law_alike K A)) (G_row_read : FnOk P w K mg base (CX1 P w) 5 A.a_row_read A.d_row_read ["row"] (sp_row_read K A)) : FnOk P w K mg base (CX1 P w) 7 A.a_law A.d_law ["_law_script"] (sp_law K A) :=
  T.f_law.okN sc_law (len_law K A) (fun cdv Ar outer s H vs Q E hr h => ⟨_, tm_law T G__law_word G__law_cell_at G__law_wanted G__law_number G__law_signs G__law_spoiled G__law_refused G__law_due G__law_alike G_row_read cdv Ar outer s H E hr, rd_law T vs H Q E h⟩)
theorem all_mk {l : PySem.W.OpenLaw} {w : World} {K : PySem.W.Frag} {h : Heap} {mg : Str → Option Value} {fa : Addr} (X : K.In h) (G : h.Ns mainGlobals mg) (hfa : mg "law" = some (.ref fa))
    {x__law_word x__law_cell_at x__law_wanted x__law_number x__law_signs x__law_spoiled x_figures_end x_is_number x_number_read x_numbers_read x_row_read x__law_refused x__law_figures x__law_due x__law_alike x_law : Addr} {od0 an0 od1 an1 od2 an2 od3 an3 od4 an4 od5 an5 od6 an6 od7 an7 od8 an8 od9 an9 od10 an10 od11 an11 od12 an12 od13 an13 od14 an14 od15 an15 : Option Addr} {sl0 sl1 sl2 sl3 sl4 sl5 sl6 sl7 sl8 sl9 sl10 sl11 sl12 sl13 sl14 sl15 : Array (Option Value)} {oc0 kV0 dc0 pm0 cd0 ct0 oc1 kV1 dc1 pm1 cd1 ct1 oc2 kV2 dc2 pm2 cd2 ct2 oc3 kV3 dc3 pm3 cd3 ct3 oc4 kV4 dc4 pm4 cd4 ct4 oc5 kV5 dc5 pm5 cd5 ct5 oc6 kV6 dc6 pm6 cd6 ct6 oc7 kV7 dc7 pm7 cd7 ct7 oc8 kV8 dc8 pm8 cd8 ct8 oc9 kV9 dc9 pm9 cd9 ct9 oc10 kV10 dc10 pm10 cd10 ct10 oc11 kV11 dc11 pm11 cd11 ct11 oc12 kV12 dc12 pm12 cd12 ct12 oc13 kV13 dc13 pm13 cd13 ct13 oc14 kV14 dc14 pm14 cd14 ct14 oc15 kV15 dc15 pm15 cd15 ct15 : Value} {y_NoRow y_StampError : Addr} {u_WITH_TEXT u_WANTED : Addr} {tc0 tc1 : Tok}
    (a0 : PySem.W.nsIn K mainGlobals "_law_word" = some (some (.ref x__law_word))) (l0 : K.lookup x__law_word = some ⟨oc0, od0, .func (PySem.W.fnOf "_law_word" "_law_word" (defArgs s__law_word) (defBody s__law_word) (defScope s__law_word) .none kV0 dc0 pm0 an0 cd0 ct0), sl0⟩) (c0 : PySem.W.codeIn K cd0 "_law_word" = true) (k0 : PySem.W.keepIn K (.ref x__law_word) = true)
    (a1 : PySem.W.nsIn K mainGlobals "_law_cell_at" = some (some (.ref x__law_cell_at))) (l1 : K.lookup x__law_cell_at = some ⟨oc1, od1, .func (PySem.W.fnOf "_law_cell_at" "_law_cell_at" (defArgs s__law_cell_at) (defBody s__law_cell_at) (defScope s__law_cell_at) .none kV1 dc1 pm1 an1 cd1 ct1), sl1⟩) (c1 : PySem.W.codeIn K cd1 "_law_cell_at" = true) (k1 : PySem.W.keepIn K (.ref x__law_cell_at) = true)
    (a2 : PySem.W.nsIn K mainGlobals "_law_wanted" = some (some (.ref x__law_wanted))) (l2 : K.lookup x__law_wanted = some ⟨oc2, od2, .func (PySem.W.fnOf "_law_wanted" "_law_wanted" (defArgs s__law_wanted) (defBody s__law_wanted) (defScope s__law_wanted) .none kV2 dc2 pm2 an2 cd2 ct2), sl2⟩) (c2 : PySem.W.codeIn K cd2 "_law_wanted" = true) (k2 : PySem.W.keepIn K (.ref x__law_wanted) = true)
    (a3 : PySem.W.nsIn K mainGlobals "_law_number" = some (some (.ref x__law_number))) (l3 : K.lookup x__law_number = some ⟨oc3, od3, .func (PySem.W.fnOf "_law_number" "_law_number" (defArgs s__law_number) (defBody s__law_number) (defScope s__law_number) .none kV3 dc3 pm3 an3 cd3 ct3), sl3⟩) (c3 : PySem.W.codeIn K cd3 "_law_number" = true) (k3 : PySem.W.keepIn K (.ref x__law_number) = true)
    (a4 : PySem.W.nsIn K mainGlobals "_law_signs" = some (some (.ref x__law_signs))) (l4 : K.lookup x__law_signs = some ⟨oc4, od4, .func (PySem.W.fnOf "_law_signs" "_law_signs" (defArgs s__law_signs) (defBody s__law_signs) (defScope s__law_signs) .none kV4 dc4 pm4 an4 cd4 ct4), sl4⟩) (c4 : PySem.W.codeIn K cd4 "_law_signs" = true) (k4 : PySem.W.keepIn K (.ref x__law_signs) = true)
    (a5 : PySem.W.nsIn K mainGlobals "_law_spoiled" = some (some (.ref x__law_spoiled))) (l5 : K.lookup x__law_spoiled = some ⟨oc5, od5, .func (PySem.W.fnOf "_law_spoiled" "_law_spoiled" (defArgs s__law_spoiled) (defBody s__law_spoiled) (defScope s__law_spoiled) .none kV5 dc5 pm5 an5 cd5 ct5), sl5⟩) (c5 : PySem.W.codeIn K cd5 "_law_spoiled" = true) (k5 : PySem.W.keepIn K (.ref x__law_spoiled) = true)
    (a6 : PySem.W.nsIn K mainGlobals "figures_end" = some (some (.ref x_figures_end))) (l6 : K.lookup x_figures_end = some ⟨oc6, od6, .func (PySem.W.fnOf "figures_end" "figures_end" (defArgs s_figures_end) (defBody s_figures_end) (defScope s_figures_end) .none kV6 dc6 pm6 an6 cd6 ct6), sl6⟩) (c6 : PySem.W.codeIn K cd6 "figures_end" = true) (k6 : PySem.W.keepIn K (.ref x_figures_end) = true)
    (a7 : PySem.W.nsIn K mainGlobals "is_number" = some (some (.ref x_is_number))) (l7 : K.lookup x_is_number = some ⟨oc7, od7, .func (PySem.W.fnOf "is_number" "is_number" (defArgs s_is_number) (defBody s_is_number) (defScope s_is_number) .none kV7 dc7 pm7 an7 cd7 ct7), sl7⟩) (c7 : PySem.W.codeIn K cd7 "is_number" = true) (k7 : PySem.W.keepIn K (.ref x_is_number) = true)
    (a8 : PySem.W.nsIn K mainGlobals "number_read" = some (some (.ref x_number_read))) (l8 : K.lookup x_number_read = some ⟨oc8, od8, .func (PySem.W.fnOf "number_read" "number_read" (defArgs s_number_read) (defBody s_number_read) (defScope s_number_read) .none kV8 dc8 pm8 an8 cd8 ct8), sl8⟩) (c8 : PySem.W.codeIn K cd8 "number_read" = true) (k8 : PySem.W.keepIn K (.ref x_number_read) = true)
    (a9 : PySem.W.nsIn K mainGlobals "numbers_read" = some (some (.ref x_numbers_read))) (l9 : K.lookup x_numbers_read = some ⟨oc9, od9, .func (PySem.W.fnOf "numbers_read" "numbers_read" (defArgs s_numbers_read) (defBody s_numbers_read) (defScope s_numbers_read) .none kV9 dc9 pm9 an9 cd9 ct9), sl9⟩) (c9 : PySem.W.codeIn K cd9 "numbers_read" = true) (k9 : PySem.W.keepIn K (.ref x_numbers_read) = true)
    (a10 : PySem.W.nsIn K mainGlobals "row_read" = some (some (.ref x_row_read))) (l10 : K.lookup x_row_read = some ⟨oc10, od10, .func (PySem.W.fnOf "row_read" "row_read" (defArgs s_row_read) (defBody s_row_read) (defScope s_row_read) .none kV10 dc10 pm10 an10 cd10 ct10), sl10⟩) (c10 : PySem.W.codeIn K cd10 "row_read" = true) (k10 : PySem.W.keepIn K (.ref x_row_read) = true)
    (a11 : PySem.W.nsIn K mainGlobals "_law_refused" = some (some (.ref x__law_refused))) (l11 : K.lookup x__law_refused = some ⟨oc11, od11, .func (PySem.W.fnOf "_law_refused" "_law_refused" (defArgs s__law_refused) (defBody s__law_refused) (defScope s__law_refused) .none kV11 dc11 pm11 an11 cd11 ct11), sl11⟩) (c11 : PySem.W.codeIn K cd11 "_law_refused" = true) (k11 : PySem.W.keepIn K (.ref x__law_refused) = true)
    (a12 : PySem.W.nsIn K mainGlobals "_law_figures" = some (some (.ref x__law_figures))) (l12 : K.lookup x__law_figures = some ⟨oc12, od12, .func (PySem.W.fnOf "_law_figures" "_law_figures" (defArgs s__law_figures) (defBody s__law_figures) (defScope s__law_figures) .none kV12 dc12 pm12 an12 cd12 ct12), sl12⟩) (c12 : PySem.W.codeIn K cd12 "_law_figures" = true) (k12 : PySem.W.keepIn K (.ref x__law_figures) = true)
    (a13 : PySem.W.nsIn K mainGlobals "_law_due" = some (some (.ref x__law_due))) (l13 : K.lookup x__law_due = some ⟨oc13, od13, .func (PySem.W.fnOf "_law_due" "_law_due" (defArgs s__law_due) (defBody s__law_due) (defScope s__law_due) .none kV13 dc13 pm13 an13 cd13 ct13), sl13⟩) (c13 : PySem.W.codeIn K cd13 "_law_due" = true) (k13 : PySem.W.keepIn K (.ref x__law_due) = true)
    (a14 : PySem.W.nsIn K mainGlobals "_law_alike" = some (some (.ref x__law_alike))) (l14 : K.lookup x__law_alike = some ⟨oc14, od14, .func (PySem.W.fnOf "_law_alike" "_law_alike" (defArgs s__law_alike) (defBody s__law_alike) (defScope s__law_alike) .none kV14 dc14 pm14 an14 cd14 ct14), sl14⟩) (c14 : PySem.W.codeIn K cd14 "_law_alike" = true) (k14 : PySem.W.keepIn K (.ref x__law_alike) = true)
    (a15 : PySem.W.nsIn K mainGlobals "law" = some (some (.ref x_law))) (l15 : K.lookup x_law = some ⟨oc15, od15, .func (PySem.W.fnOf "law" "law" (defArgs s_law) (defBody s_law) (defScope s_law) .none kV15 dc15 pm15 an15 cd15 ct15), sl15⟩) (c15 : PySem.W.codeIn K cd15 "law" = true) (k15 : PySem.W.keepIn K (.ref x_law) = true)
    (bc_NoRow : PySem.W.nsIn K mainGlobals "NoRow" = some (some (.ref y_NoRow)))
    (bc_StampError : PySem.W.nsIn K mainGlobals "StampError" = some (some (.ref y_StampError)))
    (eo_NoRow : PySem.W.excIn K y_NoRow veM "ValueError.__new__" = true)
    (eo_StampError : PySem.W.excIn K y_StampError veM "ValueError.__new__" = true)
    (e0_NoRow : PySem.W.findIn K (.ref y_NoRow) "__getattribute__" = some (some (.builtin "BaseException.__getattribute__")))
    (e1_NoRow : PySem.W.findIn K (.ref y_NoRow) "__getattr__" = some none)
    (e2_NoRow : PySem.W.findIn K (.ref y_NoRow) "__class__" = some (some (.builtin "object.__class__")))
    (em0_NoRow : PySem.W.mroIn K y_NoRow (.type "object") = some true)
    (em1_NoRow : PySem.W.mroIn K y_NoRow (.type "BaseException") = some true)
    (sb_NoRow_StampError : PySem.W.mroIn K y_NoRow (.ref y_StampError) = some true)
    (ki_NoRow_NoRow : PySem.W.kitOne K (.ref y_NoRow) (.ref y_NoRow) = some true)
    (mo_WITH_TEXT : PySem.W.nsIn K mainGlobals "WITH_TEXT" = some (some (.ref u_WITH_TEXT)))
    (ob_WITH_TEXT : TupK K u_WITH_TEXT ["put", "bend"])
    (mo_WANTED : PySem.W.nsIn K mainGlobals "WANTED" = some (some (.ref u_WANTED)))
    (ob_WANTED : TabK K u_WANTED [("put", 2), ("take", 2), ("make", 1), ("split", 1), ("bend", 1), ("seat", 1), ("follow", 1), ("ask", 3), ("span", 4), ("meet", 2), ("lies", 0)])
    (z_bool : PySem.W.nsIn K mainGlobals "bool" = some none)
    (z_int : PySem.W.nsIn K mainGlobals "int" = some none)
    (z_isinstance : PySem.W.nsIn K mainGlobals "isinstance" = some none)
    (z_len : PySem.W.nsIn K mainGlobals "len" = some none)
    (z_list : PySem.W.nsIn K mainGlobals "list" = some none)
    (z_max : PySem.W.nsIn K mainGlobals "max" = some none)
    (z_range : PySem.W.nsIn K mainGlobals "range" = some none)
    (z_str : PySem.W.nsIn K mainGlobals "str" = some none)
    (z_tuple : PySem.W.nsIn K mainGlobals "tuple" = some none)
    (c_FIGURES : PySem.W.nsIn K mainGlobals "FIGURES" = some (some (.str "0123456789" tc0)))
    (c_MOST_FIGURES : PySem.W.nsIn K mainGlobals "MOST_FIGURES" = some (some (.int 20 tc1)))
    (nt : PySem.W.noTabs K = true)
    (td : tabsApart K [] = true) :
    ∃ (fd : FuncData) (tabs : List (Addr × Addr)) (sp : Sp), (∀ (s : Shared) (v : Value), BindsTo s fd ⟨[v], []⟩ [("_law_script", v)]) ∧ PySem.W.noTabs K = true ∧ (∀ t ∈ tabs, ∃ y ∈ ([] : List Str), PySem.W.tabIn K y = some t) ∧
      (∀ base : Heap, K.In base → base.Ns mainGlobals mg → BM mg base → (∀ t ∈ tabs, PySem.W.CodeHd base t.1 t.2) → FnOk l.prog w K mg base (CX1 l.prog w) 7 fa fd ["_law_script"] sp) ∧
      ∀ (H : Hp) (a : Addr) (ns : List Int), ns.length ≤ 63 → (∀ t ∈ tabs, H t.2 = some (.tbl #[])) → SqL K H a (ns.map V.int) → sp [.ref a] H (fun v _ => v = .bl true) fun _ _ _ => False := by
  have e := hfa.symm.trans (PySem.W.mg_of X G a15)
  cases e
  have tdn : ([] : List Addr).Nodup := apart_of (by unfold tabsApart at td; simp only [List.map_cons, List.map_nil, Option.map_some] at td; exact of_decide_eq_true td)
  have T : Txt K mg ⟨x__law_word, PySem.W.fnOf "_law_word" "_law_word" (defArgs s__law_word) (defBody s__law_word) (defScope s__law_word) .none kV0 dc0 pm0 an0 cd0 ct0, x__law_cell_at, PySem.W.fnOf "_law_cell_at" "_law_cell_at" (defArgs s__law_cell_at) (defBody s__law_cell_at) (defScope s__law_cell_at) .none kV1 dc1 pm1 an1 cd1 ct1, x__law_wanted, PySem.W.fnOf "_law_wanted" "_law_wanted" (defArgs s__law_wanted) (defBody s__law_wanted) (defScope s__law_wanted) .none kV2 dc2 pm2 an2 cd2 ct2, x__law_number, PySem.W.fnOf "_law_number" "_law_number" (defArgs s__law_number) (defBody s__law_number) (defScope s__law_number) .none kV3 dc3 pm3 an3 cd3 ct3, x__law_signs, PySem.W.fnOf "_law_signs" "_law_signs" (defArgs s__law_signs) (defBody s__law_signs) (defScope s__law_signs) .none kV4 dc4 pm4 an4 cd4 ct4, x__law_spoiled, PySem.W.fnOf "_law_spoiled" "_law_spoiled" (defArgs s__law_spoiled) (defBody s__law_spoiled) (defScope s__law_spoiled) .none kV5 dc5 pm5 an5 cd5 ct5, x_figures_end, PySem.W.fnOf "figures_end" "figures_end" (defArgs s_figures_end) (defBody s_figures_end) (defScope s_figures_end) .none kV6 dc6 pm6 an6 cd6 ct6, x_is_number, PySem.W.fnOf "is_number" "is_number" (defArgs s_is_number) (defBody s_is_number) (defScope s_is_number) .none kV7 dc7 pm7 an7 cd7 ct7, x_number_read, PySem.W.fnOf "number_read" "number_read" (defArgs s_number_read) (defBody s_number_read) (defScope s_number_read) .none kV8 dc8 pm8 an8 cd8 ct8, x_numbers_read, PySem.W.fnOf "numbers_read" "numbers_read" (defArgs s_numbers_read) (defBody s_numbers_read) (defScope s_numbers_read) .none kV9 dc9 pm9 an9 cd9 ct9, x_row_read, PySem.W.fnOf "row_read" "row_read" (defArgs s_row_read) (defBody s_row_read) (defScope s_row_read) .none kV10 dc10 pm10 an10 cd10 ct10, x__law_refused, PySem.W.fnOf "_law_refused" "_law_refused" (defArgs s__law_refused) (defBody s__law_refused) (defScope s__law_refused) .none kV11 dc11 pm11 an11 cd11 ct11, x__law_figures, PySem.W.fnOf "_law_figures" "_law_figures" (defArgs s__law_figures) (defBody s__law_figures) (defScope s__law_figures) .none kV12 dc12 pm12 an12 cd12 ct12, x__law_due, PySem.W.fnOf "_law_due" "_law_due" (defArgs s__law_due) (defBody s__law_due) (defScope s__law_due) .none kV13 dc13 pm13 an13 cd13 ct13, x__law_alike, PySem.W.fnOf "_law_alike" "_law_alike" (defArgs s__law_alike) (defBody s__law_alike) (defScope s__law_alike) .none kV14 dc14 pm14 an14 cd14 ct14, fa, PySem.W.fnOf "law" "law" (defArgs s_law) (defBody s_law) (defScope s_law) .none kV15 dc15 pm15 an15 cd15 ct15, y_NoRow, y_StampError, u_WITH_TEXT, u_WANTED⟩ := ⟨fun_mk (st := s__law_word) l0 c0 k0, PySem.W.mg_of X G a0, (fun_mk (st := s__law_word) l0 c0 k0).binds (ps := ["_law_cell"]) fun _ _ _ _ _ _ us hl => by obtain ⟨_, rfl⟩ := L2.len1x hl; rfl, fun_mk (st := s__law_cell_at) l1 c1 k1, PySem.W.mg_of X G a1, (fun_mk (st := s__law_cell_at) l1 c1 k1).binds (ps := ["_law_script", "_law_k"]) fun _ _ _ _ _ _ us hl => by obtain ⟨_, _, rfl⟩ := L2.len2x hl; rfl, fun_mk (st := s__law_wanted) l2 c2 k2, PySem.W.mg_of X G a2, (fun_mk (st := s__law_wanted) l2 c2 k2).binds (ps := ["_law_word_here"]) fun _ _ _ _ _ _ us hl => by obtain ⟨_, rfl⟩ := L2.len1x hl; rfl, fun_mk (st := s__law_number) l3 c3 k3, PySem.W.mg_of X G a3, (fun_mk (st := s__law_number) l3 c3 k3).binds (ps := ["_law_cell"]) fun _ _ _ _ _ _ us hl => by obtain ⟨_, rfl⟩ := L2.len1x hl; rfl, fun_mk (st := s__law_signs) l4 c4 k4, PySem.W.mg_of X G a4, (fun_mk (st := s__law_signs) l4 c4 k4).binds (ps := ["_law_cell", "_law_many"]) fun _ _ _ _ _ _ us hl => by obtain ⟨_, _, rfl⟩ := L2.len2x hl; rfl, fun_mk (st := s__law_spoiled) l5 c5 k5, PySem.W.mg_of X G a5, (fun_mk (st := s__law_spoiled) l5 c5 k5).binds (ps := ["_law_row", "_law_cell"]) fun _ _ _ _ _ _ us hl => by obtain ⟨_, _, rfl⟩ := L2.len2x hl; rfl, fun_mk (st := s_figures_end) l6 c6 k6, PySem.W.mg_of X G a6, (fun_mk (st := s_figures_end) l6 c6 k6).binds (ps := ["text", "begin"]) fun _ _ _ _ _ _ us hl => by obtain ⟨_, _, rfl⟩ := L2.len2x hl; rfl, fun_mk (st := s_is_number) l7 c7 k7, PySem.W.mg_of X G a7, (fun_mk (st := s_is_number) l7 c7 k7).binds (ps := ["text", "most"]) fun _ _ _ _ _ _ us hl => by obtain ⟨_, _, rfl⟩ := L2.len2x hl; rfl, fun_mk (st := s_number_read) l8 c8 k8, PySem.W.mg_of X G a8, (fun_mk (st := s_number_read) l8 c8 k8).binds (ps := ["figures"]) fun _ _ _ _ _ _ us hl => by obtain ⟨_, rfl⟩ := L2.len1x hl; rfl, fun_mk (st := s_numbers_read) l9 c9 k9, PySem.W.mg_of X G a9, (fun_mk (st := s_numbers_read) l9 c9 k9).binds (ps := ["many", "parts"]) fun _ _ _ _ _ _ us hl => by obtain ⟨_, _, rfl⟩ := L2.len2x hl; rfl, fun_mk (st := s_row_read) l10 c10 k10, PySem.W.mg_of X G a10, (fun_mk (st := s_row_read) l10 c10 k10).binds (ps := ["row"]) fun _ _ _ _ _ _ us hl => by obtain ⟨_, rfl⟩ := L2.len1x hl; rfl, fun_mk (st := s__law_refused) l11 c11 k11, PySem.W.mg_of X G a11, (fun_mk (st := s__law_refused) l11 c11 k11).binds (ps := ["_law_thing"]) fun _ _ _ _ _ _ us hl => by obtain ⟨_, rfl⟩ := L2.len1x hl; rfl, fun_mk (st := s__law_figures) l12 c12 k12, PySem.W.mg_of X G a12, (fun_mk (st := s__law_figures) l12 c12 k12).binds (ps := ["_law_word_here"]) fun _ _ _ _ _ _ us hl => by obtain ⟨_, rfl⟩ := L2.len1x hl; rfl, fun_mk (st := s__law_due) l13 c13 k13, PySem.W.mg_of X G a13, (fun_mk (st := s__law_due) l13 c13 k13).binds (ps := ["_law_row"]) fun _ _ _ _ _ _ us hl => by obtain ⟨_, rfl⟩ := L2.len1x hl; rfl, fun_mk (st := s__law_alike) l14 c14 k14, PySem.W.mg_of X G a14, (fun_mk (st := s__law_alike) l14 c14 k14).binds (ps := ["_law_found", "_law_due_here"]) fun _ _ _ _ _ _ us hl => by obtain ⟨_, _, rfl⟩ := L2.len2x hl; rfl, fun_mk (st := s_law) l15 c15 k15, PySem.W.mg_of X G a15, (fun_mk (st := s_law) l15 c15 k15).binds (ps := ["_law_script"]) fun _ _ _ _ _ _ us hl => by obtain ⟨_, rfl⟩ := L2.len1x hl; rfl, PySem.W.mg_none_of X G z_bool, PySem.W.mg_none_of X G z_int, PySem.W.mg_none_of X G z_isinstance, PySem.W.mg_none_of X G z_len, PySem.W.mg_none_of X G z_list, PySem.W.mg_none_of X G z_max, PySem.W.mg_none_of X G z_range, PySem.W.mg_none_of X G z_str, PySem.W.mg_none_of X G z_tuple, ⟨_, PySem.W.mg_of X G c_FIGURES⟩, ⟨_, PySem.W.mg_of X G c_MOST_FIGURES⟩, PySem.W.mg_of X G mo_WITH_TEXT, ob_WITH_TEXT, PySem.W.mg_of X G mo_WANTED, ob_WANTED, PySem.W.mg_of X G bc_NoRow, eo_NoRow, PySem.W.mg_of X G bc_StampError, eo_StampError, ⟨e0_NoRow, e1_NoRow, e2_NoRow, em0_NoRow, em1_NoRow⟩, subIn_of sb_NoRow_StampError, ki_NoRow_NoRow⟩
  refine ⟨PySem.W.fnOf "law" "law" (defArgs s_law) (defBody s_law) (defScope s_law) .none kV15 dc15 pm15 an15 cd15 ct15, [], sp_law K ⟨x__law_word, PySem.W.fnOf "_law_word" "_law_word" (defArgs s__law_word) (defBody s__law_word) (defScope s__law_word) .none kV0 dc0 pm0 an0 cd0 ct0, x__law_cell_at, PySem.W.fnOf "_law_cell_at" "_law_cell_at" (defArgs s__law_cell_at) (defBody s__law_cell_at) (defScope s__law_cell_at) .none kV1 dc1 pm1 an1 cd1 ct1, x__law_wanted, PySem.W.fnOf "_law_wanted" "_law_wanted" (defArgs s__law_wanted) (defBody s__law_wanted) (defScope s__law_wanted) .none kV2 dc2 pm2 an2 cd2 ct2, x__law_number, PySem.W.fnOf "_law_number" "_law_number" (defArgs s__law_number) (defBody s__law_number) (defScope s__law_number) .none kV3 dc3 pm3 an3 cd3 ct3, x__law_signs, PySem.W.fnOf "_law_signs" "_law_signs" (defArgs s__law_signs) (defBody s__law_signs) (defScope s__law_signs) .none kV4 dc4 pm4 an4 cd4 ct4, x__law_spoiled, PySem.W.fnOf "_law_spoiled" "_law_spoiled" (defArgs s__law_spoiled) (defBody s__law_spoiled) (defScope s__law_spoiled) .none kV5 dc5 pm5 an5 cd5 ct5, x_figures_end, PySem.W.fnOf "figures_end" "figures_end" (defArgs s_figures_end) (defBody s_figures_end) (defScope s_figures_end) .none kV6 dc6 pm6 an6 cd6 ct6, x_is_number, PySem.W.fnOf "is_number" "is_number" (defArgs s_is_number) (defBody s_is_number) (defScope s_is_number) .none kV7 dc7 pm7 an7 cd7 ct7, x_number_read, PySem.W.fnOf "number_read" "number_read" (defArgs s_number_read) (defBody s_number_read) (defScope s_number_read) .none kV8 dc8 pm8 an8 cd8 ct8, x_numbers_read, PySem.W.fnOf "numbers_read" "numbers_read" (defArgs s_numbers_read) (defBody s_numbers_read) (defScope s_numbers_read) .none kV9 dc9 pm9 an9 cd9 ct9, x_row_read, PySem.W.fnOf "row_read" "row_read" (defArgs s_row_read) (defBody s_row_read) (defScope s_row_read) .none kV10 dc10 pm10 an10 cd10 ct10, x__law_refused, PySem.W.fnOf "_law_refused" "_law_refused" (defArgs s__law_refused) (defBody s__law_refused) (defScope s__law_refused) .none kV11 dc11 pm11 an11 cd11 ct11, x__law_figures, PySem.W.fnOf "_law_figures" "_law_figures" (defArgs s__law_figures) (defBody s__law_figures) (defScope s__law_figures) .none kV12 dc12 pm12 an12 cd12 ct12, x__law_due, PySem.W.fnOf "_law_due" "_law_due" (defArgs s__law_due) (defBody s__law_due) (defScope s__law_due) .none kV13 dc13 pm13 an13 cd13 ct13, x__law_alike, PySem.W.fnOf "_law_alike" "_law_alike" (defArgs s__law_alike) (defBody s__law_alike) (defScope s__law_alike) .none kV14 dc14 pm14 an14 cd14 ct14, fa, PySem.W.fnOf "law" "law" (defArgs s_law) (defBody s_law) (defScope s_law) .none kV15 dc15 pm15 an15 cd15 ct15, y_NoRow, y_StampError, u_WITH_TEXT, u_WANTED⟩, fun s v => .of_eq rfl, nt, ?_, fun base _ _ B C => ?_, fun H a ns hl hO hS => ⟨a, ns, rfl, hS, hl, tdn, fun _ => rfl⟩⟩
  · intro t ht
    cases ht
  have G__law_word := ok__law_word (P := l.prog) (w := w) (base := base) T 
  have G__law_cell_at := ok__law_cell_at (P := l.prog) (w := w) (base := base) T 
  have G__law_wanted := ok__law_wanted (P := l.prog) (w := w) (base := base) T 
  have G__law_number := ok__law_number (P := l.prog) (w := w) (base := base) T 
  have G__law_signs := ok__law_signs (P := l.prog) (w := w) (base := base) T 
  have G__law_spoiled := ok__law_spoiled (P := l.prog) (w := w) (base := base) T 
  have G_figures_end := ok_figures_end (P := l.prog) (w := w) (base := base) T 
  have G_is_number := ok_is_number (P := l.prog) (w := w) (base := base) T G_figures_end
  have G_number_read := ok_number_read (P := l.prog) (w := w) (base := base) T G_is_number
  have G_numbers_read := ok_numbers_read (P := l.prog) (w := w) (base := base) T G_number_read
  have G_row_read := ok_row_read (P := l.prog) (w := w) (base := base) T G_numbers_read
  have G__law_refused := ok__law_refused (P := l.prog) (w := w) (base := base) T G_row_read
  have G__law_figures := ok__law_figures (P := l.prog) (w := w) (base := base) T 
  have G__law_due := ok__law_due (P := l.prog) (w := w) (base := base) T G__law_wanted G__law_figures
  have G__law_alike := ok__law_alike (P := l.prog) (w := w) (base := base) T 
  have G_law := ok_law (P := l.prog) (w := w) (base := base) T G__law_word G__law_cell_at G__law_wanted G__law_number G__law_signs G__law_spoiled G__law_refused G__law_due G__law_alike G_row_read
  exact G_law
theorem walk {l : PySem.W.OpenLaw} {q : Program} {loose : List Str} {XP : (Str → Option Value) → Heap → Prop} {YP : World → Heap → Prop} {d : DefRec} {K : Params → PySem.W.Frag} (hn : l.most = some 63) (hdf : d.params.defaults = [])
    (hY : ∀ (w : World) (h : Heap), YP w h → (K w.params).In h) (hq : ∀ y ∈ ([] : List Str), ((PyProof.Rows.recsOf q).find? fun e => e.name == y).isSome = true)
    (F : ∀ (w : World) (mg : Str → Option Value) (fa : Addr) (h : Heap), (K w.params).In h → h.Ns mainGlobals mg → mg d.name = some (.ref fa) →
      ∃ (fd : FuncData) (tabs : List (Addr × Addr)) (sp : Sp), (∀ (s : Shared) (u : Value), BindsTo s fd ⟨[u], []⟩ [("_law_script", u)]) ∧ PySem.W.noTabs (K w.params) = true ∧ (∀ t ∈ tabs, ∃ y ∈ ([] : List Str), PySem.W.tabIn (K w.params) y = some t) ∧
        (∀ base : Heap, (K w.params).In base → base.Ns mainGlobals mg → BM mg base → (∀ t ∈ tabs, PySem.W.CodeHd base t.1 t.2) → FnOk l.prog w (K w.params) mg base (CX1 l.prog w) 7 fa fd ["_law_script"] sp) ∧
        ∀ (H : Hp) (a : Addr) (ns : List Int), ns.length ≤ 63 → (∀ t ∈ tabs, H t.2 = some (.tbl #[])) → SqL (K w.params) H a (ns.map V.int) → sp [.ref a] H (fun v _ => v = .bl true) fun _ _ _ => False) :
    PySem.W.WalkO q loose XP YP l.row.toRowW d [] (fun f vs => PySem.call f vs) :=
  L2.walk_ofT (n := 63) (k := 7) (x := "_law_script") (CX := fun w => CX1 l.prog w) hn (by decide) hdf ⟨rfl, by decide, by decide⟩ hY hq F fun _ _ _ _ _ ⟨_, _, _, _, _, z⟩ => z
end Rs
open PySem PySem.W PyProof.Rows
set_option maxRecDepth 100000 in
set_option maxHeartbeats 0 in
theorem PySem.Challenge.cw_rootstamp_k81_rows_read_holds : PySem.Challenge.rw_rootstamp_k81_rows_read.Holds := by
  w_on; o_law; k_head; (case hw => w_witness2)
  k_fill
  refine Rs.walk (l := PySem.Challenge.rw_rootstamp_k81_rows_read) rfl rfl (fun w h Y => by first | exact PySem.W.kIn_of Y | exact PySem.W.km_in_of Y) (by decide +kernel) ?F
  case F =>
    intro w mg fa h KX G hmg
    refine' Rs.all_mk KX G hmg ?a0 ?l0 ?c0 ?k0 ?a1 ?l1 ?c1 ?k1 ?a2 ?l2 ?c2 ?k2 ?a3 ?l3 ?c3 ?k3 ?a4 ?l4 ?c4 ?k4 ?a5 ?l5 ?c5 ?k5 ?a6 ?l6 ?c6 ?k6 ?a7 ?l7 ?c7 ?k7 ?a8 ?l8 ?c8 ?k8 ?a9 ?l9 ?c9 ?k9 ?a10 ?l10 ?c10 ?k10 ?a11 ?l11 ?c11 ?k11 ?a12 ?l12 ?c12 ?k12 ?a13 ?l13 ?c13 ?k13 ?a14 ?l14 ?c14 ?k14 ?a15 ?l15 ?c15 ?k15 ?bc_NoRow ?bc_StampError ?eo_NoRow ?eo_StampError ?e0_NoRow ?e1_NoRow ?e2_NoRow ?em0_NoRow ?em1_NoRow ?sb_NoRow_StampError ?ki_NoRow_NoRow ?mo_WITH_TEXT ?ob_WITH_TEXT ?mo_WANTED ?ob_WANTED ?z_bool ?z_int ?z_isinstance ?z_len ?z_list ?z_max ?z_range ?z_str ?z_tuple ?c_FIGURES ?c_MOST_FIGURES ?nt ?td
    (case a0 => k_is); (case l0 => k_is); (case c0 => k_is); (case k0 => k_is); (case a1 => k_is); (case l1 => k_is)
    (case c1 => k_is); (case k1 => k_is); (case a2 => k_is); (case l2 => k_is); (case c2 => k_is); (case k2 => k_is)
    (case a3 => k_is); (case l3 => k_is); (case c3 => k_is); (case k3 => k_is); (case a4 => k_is); (case l4 => k_is)
    (case c4 => k_is); (case k4 => k_is); (case a5 => k_is); (case l5 => k_is); (case c5 => k_is); (case k5 => k_is)
    (case a6 => k_is); (case l6 => k_is); (case c6 => k_is); (case k6 => k_is); (case a7 => k_is); (case l7 => k_is)
    (case c7 => k_is); (case k7 => k_is); (case a8 => k_is); (case l8 => k_is); (case c8 => k_is); (case k8 => k_is)
    (case a9 => k_is); (case l9 => k_is); (case c9 => k_is); (case k9 => k_is); (case a10 => k_is); (case l10 => k_is)
    (case c10 => k_is); (case k10 => k_is); (case a11 => k_is); (case l11 => k_is); (case c11 => k_is); (case k11 => k_is)
    (case a12 => k_is); (case l12 => k_is); (case c12 => k_is); (case k12 => k_is); (case a13 => k_is); (case l13 => k_is)
    (case c13 => k_is); (case k13 => k_is); (case a14 => k_is); (case l14 => k_is); (case c14 => k_is); (case k14 => k_is)
    (case a15 => k_is); (case l15 => k_is); (case c15 => k_is); (case k15 => k_is); (case bc_NoRow => k_is); (case bc_StampError => k_is)
    (case eo_NoRow => k_exc); (case eo_StampError => k_exc); (case e0_NoRow => k_is); (case e1_NoRow => k_is); (case e2_NoRow => k_is); (case em0_NoRow => k_is)
    (case em1_NoRow => k_is); (case sb_NoRow_StampError => k_is); (case ki_NoRow_NoRow => kit_is); (case mo_WITH_TEXT => k_is); (case ob_WITH_TEXT => kernel_rfl); (case mo_WANTED => k_is)
    (case ob_WANTED => kernel_rfl); (case z_bool => k_is); (case z_int => k_is); (case z_isinstance => k_is); (case z_len => k_is); (case z_list => k_is)
    (case z_max => k_is); (case z_range => k_is); (case z_str => k_is); (case z_tuple => k_is); (case c_FIGURES => k_is); (case c_MOST_FIGURES => k_is)
    (case nt => kernel_rfl); (case td => kernel_rfl)

